/-
  PART 2 of what the claims of this seat lean on: RInt CpuRef CpuRef2 CpuRef3 Build1 CpuLaw CpuLaw2 Was CpuSeg CpuWr CpuX CpuFnA CpuFnB CpuFnC CpuFnD CpuFnE IsaParts IsaFns.
-/
import Derived.Deep.CutBlock
import Derived.Great.BuildSlice
import Derived.Test.YtinibccphecdfaaPt1
/-! THE CONTRACT OF THE DOCUMENT'S OWN ToInt: it answers what the program's does; and what FromInt makes of an answer of ToInt. -/
namespace Go.Proofs.Ytinibccphecdfaa
open Go.RowKit
set_option maxRecDepth 8000

set_option maxHeartbeats 1000000 in
theorem rint_small (a E M : Int) (w : World) (hE : bits .and .u64 (IntKind.u64.wrap a / 4503599627370496) 2047 = E) (hM : bits .and .u64 (IntKind.u64.wrap a) 4503599627370495 = M)
    (e0 : 0 ≤ E) (e1 : E < 1023) :
    Calls Try.prog 28 #[.int .i64 a] w fun e w' => e = .returned (.tuple #[.int .i64 0, .int .i64 0]) ∧ w' = w := by
  go_enter Try.func28, Try.ntmps28
  go_wp2
  go_ret2
  exact ⟨rfl, rfl⟩

set_option maxHeartbeats 1000000 in
theorem rint_great (a E M O : Int) (w : World) (hE : bits .and .u64 (IntKind.u64.wrap a / 4503599627370496) 2047 = E) (hM : bits .and .u64 (IntKind.u64.wrap a) 4503599627370495 = M)
    (hO : bits .or .u64 M 4503599627370496 = O) (e1 : E < 2048) (e2 : 1086 < E) :
    Calls Try.prog 28 #[.int .i64 a] w fun e w' => e = .returned (.tuple #[.int .i64 0, .int .i64 1]) ∧ w' = w := by
  go_enter Try.func28, Try.ntmps28
  go_wp2
  go_ret2
  exact ⟨rfl, rfl⟩

set_option maxHeartbeats 1000000 in
theorem rint_edge (a E M O : Int) (w : World) (hE : bits .and .u64 (IntKind.u64.wrap a / 4503599627370496) 2047 = E) (hM : bits .and .u64 (IntKind.u64.wrap a) 4503599627370495 = M)
    (hO : bits .or .u64 M 4503599627370496 = O) (e1 : E ≤ 1086) (e2 : 1086 ≤ E) (h : 0 ≤ a ∨ O ≠ 4503599627370496) :
    Calls Try.prog 28 #[.int .i64 a] w fun e w' => e = .returned (.tuple #[.int .i64 0, .int .i64 1]) ∧ w' = w := by
  by_cases ha : 0 ≤ a
  · clear h
    go_enter Try.func28, Try.ntmps28
    go_wp2
    go_ret2
    exact ⟨rfl, rfl⟩
  · have ho : (O != 4503599627370496) = true := by
      rcases h with h | h
      · exact absurd h ha
      · rw [bne_iff_ne]; exact h
    clear h
    go_enter Try.func28, Try.ntmps28
    go_wp2
    go_ret2
    exact ⟨rfl, rfl⟩

set_option maxHeartbeats 1000000 in
theorem rint_up (a E M O V : Int) (w : World) (hE : bits .and .u64 (IntKind.u64.wrap a / 4503599627370496) 2047 = E) (hM : bits .and .u64 (IntKind.u64.wrap a) 4503599627370495 = M)
    (hO : bits .or .u64 M 4503599627370496 = O) (e1 : E ≤ 1085) (e2 : 1075 ≤ E) (hV : IntKind.u64.wrap (O * 2 ^ (E - 1075).toNat) = V) (v0 : 0 ≤ V) (v1 : V ≤ 9223372036854775807) (R : Int)
    (hR : R = if a < 0 then -V else V) :
    Calls Try.prog 28 #[.int .i64 a] w fun e w' => e = .returned (.tuple #[.int .i64 R, .int .i64 0]) ∧ w' = w := by
  have f1 : wrap64 (IntKind.u64.wrap (-V)) = -V := by rw [IntKind.wrap_u64]; unfold wrap64; omega
  have f2 : wrap64 V = V := by unfold wrap64; omega
  by_cases ha : a < 0
  · rw [if_pos ha] at hR
    subst hR
    go_enter Try.func28, Try.ntmps28
    go_wp2
    go_ret2
    exact ⟨congrArg (fun x : Int => Ending.returned (.tuple #[.int .i64 x, .int .i64 0])) f1, rfl⟩
  · rw [if_neg ha] at hR
    subst hR
    go_enter Try.func28, Try.ntmps28
    go_wp2
    go_ret2
    exact ⟨rfl, rfl⟩

set_option maxHeartbeats 1000000 in
theorem rint_least (a E M O V : Int) (w : World) (hE : bits .and .u64 (IntKind.u64.wrap a / 4503599627370496) 2047 = E) (hM : bits .and .u64 (IntKind.u64.wrap a) 4503599627370495 = M)
    (hO : bits .or .u64 M 4503599627370496 = O) (e1 : E ≤ 1086) (e2 : 1086 ≤ E) (o1 : (O != 4503599627370496) = false) (ha : a < 0) (hV : IntKind.u64.wrap (O * 2048) = V) (v0 : V = 9223372036854775808) :
    Calls Try.prog 28 #[.int .i64 a] w fun e w' => e = .returned (.tuple #[.int .i64 (-9223372036854775808), .int .i64 0]) ∧ w' = w := by
  have f1 : wrap64 (IntKind.u64.wrap (-V)) = -9223372036854775808 := by rw [IntKind.wrap_u64]; unfold wrap64; omega
  clear v0
  go_enter Try.func28, Try.ntmps28
  go_wp2
  go_ret2
  exact ⟨congrArg (fun x : Int => Ending.returned (.tuple #[.int .i64 x, .int .i64 0])) f1, rfl⟩

set_option maxHeartbeats 1000000 in
theorem rint_down (a E M O V : Int) (w : World) (hE : bits .and .u64 (IntKind.u64.wrap a / 4503599627370496) 2047 = E) (hM : bits .and .u64 (IntKind.u64.wrap a) 4503599627370495 = M)
    (hO : bits .or .u64 M 4503599627370496 = O) (e1 : E < 1075) (e2 : 1023 ≤ E) (hV : O / 2 ^ (-(E - 1075)).toNat = V) (v0 : 0 ≤ V) (v1 : V ≤ 9223372036854775807) (R : Int)
    (hR : R = if a < 0 then -V else V) :
    Calls Try.prog 28 #[.int .i64 a] w fun e w' => e = .returned (.tuple #[.int .i64 R, .int .i64 0]) ∧ w' = w := by
  have f1 : wrap64 (IntKind.u64.wrap (-V)) = -V := by rw [IntKind.wrap_u64]; unfold wrap64; omega
  have f2 : wrap64 V = V := by unfold wrap64; omega
  by_cases ha : a < 0
  · rw [if_pos ha] at hR
    subst hR
    go_enter Try.func28, Try.ntmps28
    go_wp2
    go_ret2
    exact ⟨congrArg (fun x : Int => Ending.returned (.tuple #[.int .i64 x, .int .i64 0])) f1, rfl⟩
  · rw [if_neg ha] at hR
    subst hR
    go_enter Try.func28, Try.ntmps28
    go_wp2
    go_ret2
    exact ⟨rfl, rfl⟩

/-- The digits of a normal word, as the document's own text takes them. -/
theorem or_bits {M : Nat} (h : M < 4503599627370496) : bits .or .u64 (M : Int) 4503599627370496 = ((4503599627370496 + M : Nat) : Int) := by
  rw [show (4503599627370496 : Int) = ((4503599627370496 : Nat) : Int) from rfl, u64_or_nat _ _ (by omega) (by decide), Nat.or_comm, nat_join 52 _ _ (by decide) h]

theorem parts_of (a : Int) : rung (U a) = ex a * 4503599627370496 + fr a ∧ ex a < 2048 ∧ fr a < 4503599627370496 := by
  have := rung_lt (U a)
  unfold ex fr
  omega

/-- A normal float, cut off: by its fields. -/
theorem val_fields {a : Int} (h : 1 ≤ ex a) : val (rung (U a)) / Q = (4503599627370496 + fr a) * 2 ^ (ex a - 1 - 1074) / 2 ^ (1074 - (ex a - 1)) := by
  rw [div_Q]
  have e := parts_of a
  unfold val
  rw [if_neg (by omega)]
  rfl

theorem val_small {r : Nat} (h : r < 4607182418800017408) : val r / Q = 0 := by
  apply Nat.div_eq_of_lt
  have e : val 4607182418800017408 = Q := by decide +kernel
  rw [← e]
  exact val_mono_lt h

theorem key_bits {a : Int} (a0 : -9223372036854775808 ≤ a) (a1 : a ≤ 9223372036854775807) : key (U a) = if a < 0 then -(rung (U a) : Int) else (rung (U a) : Int) := by
  unfold key sg
  rw [sgn_U a0 a1]
  simp only [decide_eq_true_eq]

theorem tr_bits {a : Int} (a0 : -9223372036854775808 ≤ a) (a1 : a ≤ 9223372036854775807) : tr (U a) = if a < 0 then -((val (rung (U a)) / Q : Nat) : Int) else ((val (rung (U a)) / Q : Nat) : Int) := by
  unfold tr sg
  rw [sgn_U a0 a1]
  simp only [decide_eq_true_eq]

theorem donjonref1_ToInt_any {a : Int} (a0 : -9223372036854775808 ≤ a) (a1 : a ≤ 9223372036854775807) (w : World) :
    Calls Try.prog 28 #[.int .i64 a] w fun e w' => e = .returned (.tuple #[.int .i64 (toV a), .int .i64 (toE a)]) ∧ w' = w := by
  have hE := ex_bits a
  have hM := fr_bits a
  obtain ⟨p1, p2, p3⟩ := parts_of a
  have hO := or_bits p3
  have hk := key_bits a0 a1
  have ht := tr_bits a0 a1
  unfold toV toE
  by_cases h1 : ex a < 1023
  · have ok : okI a := by unfold okI; rw [hk]; split <;> omega
    have e0 : tr (U a) = 0 := by rw [ht, val_small (by omega)]; split <;> rfl
    rw [if_pos ((okF_iff a).mpr ok), if_pos ((okF_iff a).mpr ok), e0]
    exact rint_small a _ _ w hE hM (by omega) (by omega)
  · have vf := val_fields (a := a) (by omega)
    by_cases h2 : 1086 < ex a
    · have no : ¬ okI a := by unfold okI; rw [hk]; split <;> omega
      have nb : ¬ okF a = true := fun k => no ((okF_iff a).mp k)
      rw [if_neg nb, if_neg nb]
      exact rint_great a _ _ _ w hE hM hO (by omega) (by omega)
    · by_cases h3 : ex a = 1086
      · by_cases h4 : 0 ≤ a ∨ fr a ≠ 0
        · have no : ¬ okI a := by unfold okI; rw [hk]; split <;> omega
          have nb : ¬ okF a = true := fun k => no ((okF_iff a).mp k)
          rw [if_neg nb, if_neg nb]
          exact rint_edge a _ _ _ w hE hM hO (by omega) (by omega) (by omega)
        · have ok : okI a := by unfold okI; rw [hk]; split <;> omega
          have f0 : fr a = 0 := by omega
          have e0 : tr (U a) = -9223372036854775808 := by
            rw [ht, if_pos (by omega), vf, h3, f0]
            rfl
          rw [if_pos ((okF_iff a).mpr ok), if_pos ((okF_iff a).mpr ok), e0]
          refine rint_least a _ _ _ _ w hE hM hO (by omega) (by omega) ?_ (by omega) rfl ?_
          · rw [f0]; rfl
          · rw [f0]; rfl
      · have ok : okI a := by unfold okI; rw [hk]; split <;> omega
        have tb := (tr_bounds (okI_parts ok).1).2 (by omega)
        rw [if_pos ((okF_iff a).mpr ok), if_pos ((okF_iff a).mpr ok)]
        by_cases h4 : 1075 ≤ ex a
        · have e1 : val (rung (U a)) / Q = (4503599627370496 + fr a) * 2 ^ (ex a - 1075) := by
            rw [vf, show 1074 - (ex a - 1) = 0 from by omega, Nat.pow_zero, Nat.div_one, show ex a - 1 - 1074 = ex a - 1075 from by omega]
          generalize val (rung (U a)) / Q = v at *
          refine rint_up a _ _ _ (v : Int) w hE hM hO (by omega) (by omega) ?_ (by omega) (by omega) _ ht
          rw [show (((ex a : Nat) : Int) - 1075).toNat = ex a - 1075 from by omega, IntKind.wrap_u64]
          have e2 : ((4503599627370496 + fr a : Nat) : Int) * 2 ^ (ex a - 1075) = (v : Int) := by rw [e1, Int.natCast_mul, Int.natCast_pow]; rfl
          rw [e2]; omega
        · have e1 : val (rung (U a)) / Q = (4503599627370496 + fr a) / 2 ^ (1075 - ex a) := by
            rw [vf, show ex a - 1 - 1074 = 0 from by omega, Nat.pow_zero, Nat.mul_one, show 1074 - (ex a - 1) = 1075 - ex a from by omega]
          generalize val (rung (U a)) / Q = v at *
          refine rint_down a _ _ _ (v : Int) w hE hM hO (by omega) (by omega) ?_ (by omega) (by omega) _ ht
          rw [show (-(((ex a : Nat) : Int) - 1075)).toNat = 1075 - ex a from by omega, e1, Int.natCast_ediv, Int.natCast_pow]; rfl

end Go.Proofs.Ytinibccphecdfaa

/-! THE DOCUMENT'S OWN PROCESSOR (donjonref16): what is fetched and read; the pointers' rings raised. -/
namespace Go.Proofs.Ytinibccphecdfaa
open Go.RowKit
set_option maxRecDepth 8000
set_option linter.unusedSimpArgs false
set_option linter.unusedVariables false

def fetZ (c : Cp) (m : List Sg) : Ins := if fetE c m = 0 then fetI c m else ⟨0, 0, 0⟩
section
variable {ops : Array Oper} {rest : List Oper} {o : Oper} {a : Act} {w : World} {Q : Exit → Act → World → Prop} {T : TypeId} {d : TypeDesc}
/-- A part of a struct, loaded, under a guard or none. -/
theorem wpList_load_midg (hw : Region.wanted o (yielded ops a.tmps) = true) (x : Operand) (ho : o.op = .load T x) (b k : Nat) (hx : a.eval x = .pointer (some ⟨b, k, none⟩)) (cs : List Value) (hc : w.rangeAt b k cs)
    (hu : Try.prog.underlying T = some d) (hd : d.isRow = true) (hi : (Try.prog.info? T).map (·.size) = some cs.length)
    (h : wpList Try.prog ops Q rest (a.put o.dst (.agg cs.toArray)) w) : wpList Try.prog ops Q (o :: rest) a w := wpList_step fun K hK => by
  rw [if_pos hw]
  exact wp_load_mid T x ho b k hx cs d hc hu hd hi (hK _ _ h)
end
abbrev rg4 (x : Rg) : List Value := [.int .i64 x.a, .int .i64 x.b, .int .i64 x.c, .int .i64 x.g]
/-- A segment in a block of one's own. -/
structure GAt (b : Nat) (x : PG) (W : World) : Prop where
  blk : BlkL b x.cs W
  at_ : x.At W
theorem GAt.is {b : Nat} {x : PG} {W : World} (h : GAt b x W) : W.cell? ⟨b, 0, none⟩ = some (.bool x.g.is) := (h.blk.1 0 _ rfl).1
theorem GAt.ws {b : Nat} {x : PG} {W : World} (h : GAt b x W) : W.cell? ⟨b, 1, none⟩ = some x.v := (h.blk.1 1 _ rfl).1
theorem GAt.md {b : Nat} {x : PG} {W : World} (h : GAt b x W) : W.cell? ⟨b, 2, none⟩ = some (.int .i64 x.g.md) := (h.blk.1 2 _ rfl).1
theorem GAt.rg {b : Nat} {x : PG} {W : World} (h : GAt b x W) : W.rangeAt b 3 (rg4 x.g.rg) := fun j u hu => by
  match j, hu with
  | 0, hu => exact (h.blk.1 3 u hu).1
  | 1, hu => exact (h.blk.1 4 u hu).1
  | 2, hu => exact (h.blk.1 5 u hu).1
  | 3, hu => exact (h.blk.1 6 u hu).1
  | j + 4, hu => simp at hu
theorem GAt.keep {b : Nat} {x : PG} {W : World} (h : GAt b x W) {W' : World} (hb : Below W.heap.size W W') : GAt b x W' := ⟨stab_blk _ _ _ _ h.blk hb, h.at_.below hb⟩
theorem GAt.word {b : Nat} {x : PG} {W : World} (h : GAt b x W) {k : Nat} (hk : k < x.g.ws.length) : ∃ y, x.wa = some y ∧ W.cell? (y.add k) = some (.int .i64 (wAt x.g (k : Int))) := by
  obtain ⟨y, hy, hc⟩ := h.at_ k (x.g.ws[k]) (List.getElem?_eq_getElem hk)
  refine ⟨y, hy, ?_⟩
  have := hc 0 (by decide)
  rw [Nat.mul_one, Nat.add_zero] at this
  rw [this]
  unfold wAt
  rw [Int.toNat_natCast, List.getD_eq_getElem?_getD, List.getElem?_eq_getElem hk]
  rfl
/-- A segment that was told, in a new block. -/
theorem new_pg (W : World) (x : PG) (hx : x.At W) : ∃ W', (W.alloc (.cells #[.bool false, .slice none 0 0, .int .i64 0, .int .i64 0, .int .i64 0, .int .i64 0, .int .i64 0] 57)).setCells W.heap.size 0 x.cs = W' ∧ (W.alloc (.cells #[.bool false, .slice none 0 0, .int .i64 0, .int .i64 0, .int .i64 0, .int .i64 0, .int .i64 0] 57)).there W.heap.size 0 x.cs.length ∧ GAt W.heap.size x W' ∧ Below W.heap.size W W' := by
  have hb0 := blkl_alloc W zeroPG.cs.toArray 57
  have hB0 := alloc_below W (.cells zeroPG.cs.toArray 57)
  obtain ⟨W3, hW3, hth3, hb3, hk3⟩ := put_pg hb0 x
  have hB3 := hk3 _ _ (Nat.le_refl _) hB0
  exact ⟨W3, hW3, hth3, ⟨hb3, hx.below hB3⟩, hB3⟩
set_option maxRecDepth 8000 in
set_option maxHeartbeats 4000000 in
theorem rfet_any (c : Cp) (v : Value) (h4 : c.ps.length = 4) (m : List PG) (a : Option Addr) (cap : Nat) (hml : m.length < 1000000) (hok : ∀ x ∈ m, x.g.Ok) (w : World) (hG : RowG w a m) :
    Calls Try.prog 37 #[.agg (stCs c v).toArray, .slice a m.length cap] w fun e w' => e = .returned (.tuple #[(fetZ c (m.map (·.g))).v, .int .i64 (fetE c (m.map (·.g)))]) ∧ Below w.heap.size w w' := by
  have hundG := Try.underlying57
  have hszG : (Try.prog.info? 57).map (·.size) = some 7 := by kernel_rfl
  have hundR := Try.underlying55
  have hszR : (Try.prog.info? 55).map (·.size) = some 4 := by kernel_rfl
  have hundI := Try.underlying64
  have hszI : (Try.prog.info? 64).map (·.size) = some 3 := by kernel_rfl
  have hs0 : StAt w.heap.size c v (w.alloc (.cells (stCs c v).toArray 39)) := ⟨h4, blkl_alloc w (stCs c v).toArray 39⟩
  have hB0 := alloc_below w (.cells (stCs c v).toArray 39)
  have hg := knP_g m c.seg
  have hgok : (knP m c.seg).g.Ok := by rw [hg]; exact kn_ok (fun g hg => by obtain ⟨x, hx, rfl⟩ := List.mem_map.1 hg; exact hok x hx) _
  have kk := fun (W : World) (h : RowG W a m) => rkn_any m a cap c.seg hml W h
  have kat := fun (W : World) (h : RowG W a m) => knP_at h c.seg
  obtain ⟨x, hx⟩ : ∃ x, knP m c.seg = x := ⟨_, rfl⟩
  rw [hx] at hg hgok
  simp only [hx] at kk kat
  have hE : fetE c (m.map (·.g)) = if x.g.is = false then 35 else if hasM x.g.md 4 = false ∨ mayX x.g.rg c.ring = false then 33 else if ¬ inG x.g c.off then 35 else if decE (wAt x.g c.off) ≠ 0 then 36 else 0 := by unfold fetE; rw [← hg]
  have hZ : fetZ c (m.map (·.g)) = if fetE c (m.map (·.g)) = 0 then decI (wAt x.g c.off) else ⟨0, 0, 0⟩ := by unfold fetZ fetI; rw [← hg]
  obtain ⟨E, hEE⟩ : ∃ E, fetE c (m.map (·.g)) = E := ⟨_, rfl⟩
  obtain ⟨J, hJ⟩ : ∃ J, fetZ c (m.map (·.g)) = J := ⟨_, rfl⟩
  rw [hEE] at hE hZ
  rw [hJ] at hZ
  rw [hEE, hJ]
  replace hE : Aside (E = if x.g.is = false then 35 else if hasM x.g.md 4 = false ∨ mayX x.g.rg c.ring = false then 33 else if ¬ inG x.g c.off then 35 else if decE (wAt x.g c.off) ≠ 0 then 36 else 0) := hE
  replace hZ : Aside (J = if E = 0 then decI (wAt x.g c.off) else ⟨0, 0, 0⟩) := hZ
  clear hEE hJ hx hg hok hml
  obtain ⟨cs, hcs⟩ : ∃ cs, stCs c v = cs := ⟨_, rfl⟩
  simp only [hcs] at hs0 hB0
  rw [hcs]
  clear hcs
  go_enter Try.func37, Try.ntmps37
  go_upto_region 1 with fail
  have hi0 := blkl_alloc (w.alloc (.cells cs.toArray 39)) (ins3 ⟨0, 0, 0⟩).toArray 64
  have hb := alloc_below (w.alloc (.cells cs.toArray 39)) (.cells (ins3 ⟨0, 0, 0⟩).toArray 64)
  have hsw : (w.alloc (.cells cs.toArray 39)).heap.size = w.heap.size + 1 := by simp
  replace hi0 : BlkL (w.heap.size + 1) (ins3 ⟨0, 0, 0⟩) ((w.alloc (.cells cs.toArray 39)).alloc (.cells #[.int .i64 0, .int .i64 0, .int .i64 0] 64)) := by rw [← hsw]; exact hi0
  have hs1 : StAt w.heap.size c v ((w.alloc (.cells cs.toArray 39)).alloc (.cells #[.int .i64 0, .int .i64 0, .int .i64 0] 64)) := hs0.keep hb
  have hB1 : Below w.heap.size w ((w.alloc (.cells cs.toArray 39)).alloc (.cells #[.int .i64 0, .int .i64 0, .int .i64 0] 64)) := Below.then hB0 hb
  clear hb hs0 hB0 hsw
  generalize (w.alloc (.cells cs.toArray 39)).alloc (.cells #[.int .i64 0, .int .i64 0, .int .i64 0] 64) = W0 at *
  have hG1 := hG.below hB1
  have z0 := hs1.seg
  go_wp2_with fail
  refine (kk W0 hG1).mono ?_
  rintro e W1 ⟨rfl, hb⟩
  have hs2 := hs1.keep hb
  have hi2 := stab_blk _ _ _ _ hi0 hb
  have hB2 := Below.then hB1 hb
  have hat := kat W1 (hG1.below hb)
  obtain ⟨W3, hW3, hth3, hx3, hb3⟩ := new_pg W1 x hat
  have hs := hs2.keep hb3
  have hi := stab_blk _ _ _ _ hi2 hb3
  have hB := Below.then hB2 hb3
  clear hs2 hi2 hB2 hb3 hat hb hi0 hs1 hB1 z0 kk kat hG1 hG
  go_upto_region 2 with (first | (refine wpList_store_row rfl _ _ rfl W1.heap.size rfl x.cs rfl hth3 hszG (pg_one _) hW3 ?_) | fail)
  clear hW3 hth3
  generalize W1.heap.size = bg at *
  have y0 := hx3.is
  have y1 := hx3.ws
  have y2 := hx3.md
  have hrg := hx3.rg
  have z1 := hs.off
  have z2 := hs.ring
  unfold PG.v at y1
  by_cases c1 : x.g.is = false
  · have hEJ : Aside (E = 35 ∧ J = ⟨0, 0, 0⟩) := by
      have e : E = 35 := by rw [hE.out, if_pos c1]
      exact ⟨e, by rw [hZ.out, if_neg (by rw [e]; decide)]⟩
    rw [c1] at y0
    clear hE hZ c1
    obtain ⟨W7, hW7, hth7, hb7, hk7⟩ := put_box hi ⟨0, 0, 0⟩
    have hB7 := hk7 _ _ (Nat.le_succ _) hB
    have hr7 := hb7.range
    clear hk7 hi
    go_wp2_with (first | (refine wpList_store_row rfl _ _ rfl (w.heap.size + 1) rfl (ins3 ⟨0, 0, 0⟩) rfl hth7 hszI (ins3_one _) hW7 ?_) | fail)
    refine bodyPost_ret (v := .tuple #[.agg (ins3 ⟨0, 0, 0⟩).toArray, .int .i64 35]) (results_row2 rfl _ _ (w.heap.size + 1) rfl (.int .i64 35) rfl (ins3 ⟨0, 0, 0⟩) hr7 hundI rfl hszI) rfl ?_
    exact ⟨by rw [hEJ.out.1, hEJ.out.2], hB7⟩
  have c1' : x.g.is = true := by simpa using c1
  rw [c1'] at y0
  by_cases c2 : hasM x.g.md 4 = false
  · have hEJ : Aside (E = 33 ∧ J = ⟨0, 0, 0⟩) := by
      have e : E = 33 := by rw [hE.out, if_neg c1, if_pos (.inl c2)]
      exact ⟨e, by rw [hZ.out, if_neg (by rw [e]; decide)]⟩
    have q : (bits .and .i64 x.g.md 4 == 0) = true := by unfold hasM at c2; simpa using c2
    clear hE hZ c1 c2 c1'
    obtain ⟨W7, hW7, hth7, hb7, hk7⟩ := put_box hi ⟨0, 0, 0⟩
    have hB7 := hk7 _ _ (Nat.le_succ _) hB
    have hr7 := hb7.range
    clear hk7 hi
    go_wp2_with (first | (refine wpList_store_row rfl _ _ rfl (w.heap.size + 1) rfl (ins3 ⟨0, 0, 0⟩) rfl hth7 hszI (ins3_one _) hW7 ?_) | fail)
    refine bodyPost_ret (v := .tuple #[.agg (ins3 ⟨0, 0, 0⟩).toArray, .int .i64 33]) (results_row2 rfl _ _ (w.heap.size + 1) rfl (.int .i64 33) rfl (ins3 ⟨0, 0, 0⟩) hr7 hundI rfl hszI) rfl ?_
    exact ⟨by rw [hEJ.out.1, hEJ.out.2], hB7⟩
  have q2 : (bits .and .i64 x.g.md 4 == 0) = false := by unfold hasM at c2; simpa using c2
  have hb8 : x.g.rg.v = .agg (rg4 x.g.rg).toArray := rfl
  have kx := fun (W : World) => rmayExec_any x.g.rg c.ring W
  rw [hb8] at kx
  go_upto_region 4 with fail
  go_wp2_with (first | (refine wpList_load_midg (by rfl) _ rfl bg 3 rfl (rg4 x.g.rg) hrg hundR rfl hszR ?_) | fail)
  refine (kx W3).mono ?_
  rintro e W4 ⟨rfl, hb⟩
  replace hx3 := hx3.keep hb
  replace hs := hs.keep hb
  replace hi := stab_blk _ _ _ _ hi hb
  replace hB := Below.then hB hb
  replace y1 := hx3.ws
  replace hrg := hx3.rg
  replace z1 := hs.off
  unfold PG.v at y1
  clear y0 y2 z2 hb kx hb8 q2
  cases c3 : mayX x.g.rg c.ring with
  | false =>
    have hEJ : Aside (E = 33 ∧ J = ⟨0, 0, 0⟩) := by
      have e : E = 33 := by rw [hE.out, if_neg c1, if_pos (.inr c3)]
      exact ⟨e, by rw [hZ.out, if_neg (by rw [e]; decide)]⟩
    clear hE hZ c1 c2 c1' c3
    obtain ⟨W7, hW7, hth7, hb7, hk7⟩ := put_box hi ⟨0, 0, 0⟩
    have hB7 := hk7 _ _ (Nat.le_succ _) hB
    have hr7 := hb7.range
    clear hk7 hi
    go_wp2_with (first | (refine wpList_store_row rfl _ _ rfl (w.heap.size + 1) rfl (ins3 ⟨0, 0, 0⟩) rfl hth7 hszI (ins3_one _) hW7 ?_) | fail)
    refine bodyPost_ret (v := .tuple #[.agg (ins3 ⟨0, 0, 0⟩).toArray, .int .i64 33]) (results_row2 rfl _ _ (w.heap.size + 1) rfl (.int .i64 33) rfl (ins3 ⟨0, 0, 0⟩) hr7 hundI rfl hszI) rfl ?_
    exact ⟨by rw [hEJ.out.1, hEJ.out.2], hB7⟩
  | true =>
  have hE2 : Aside (E = if ¬ inG x.g c.off then 35 else if decE (wAt x.g c.off) ≠ 0 then 36 else 0) := by
    show _ = _
    rw [hE.out, if_neg c1, if_neg (by rw [c3]; simpa using c2)]
  clear hE c1 c2 c1' c3
  by_cases c4 : c.off < 0
  · have hEJ : Aside (E = 35 ∧ J = ⟨0, 0, 0⟩) := by
      have e : E = 35 := by rw [hE2.out, if_pos (by unfold inG; omega)]
      exact ⟨e, by rw [hZ.out, if_neg (by rw [e]; decide)]⟩
    clear hE2 hZ
    obtain ⟨W7, hW7, hth7, hb7, hk7⟩ := put_box hi ⟨0, 0, 0⟩
    have hB7 := hk7 _ _ (Nat.le_succ _) hB
    have hr7 := hb7.range
    clear hk7 hi
    go_wp2_with (first | (refine wpList_store_row rfl _ _ rfl (w.heap.size + 1) rfl (ins3 ⟨0, 0, 0⟩) rfl hth7 hszI (ins3_one _) hW7 ?_) | fail)
    refine bodyPost_ret (v := .tuple #[.agg (ins3 ⟨0, 0, 0⟩).toArray, .int .i64 35]) (results_row2 rfl _ _ (w.heap.size + 1) rfl (.int .i64 35) rfl (ins3 ⟨0, 0, 0⟩) hr7 hundI rfl hszI) rfl ?_
    exact ⟨by rw [hEJ.out.1, hEJ.out.2], hB7⟩
  by_cases c5 : (x.g.ws.length : Int) ≤ c.off
  · have hEJ : Aside (E = 35 ∧ J = ⟨0, 0, 0⟩) := by
      have e : E = 35 := by rw [hE2.out, if_pos (by unfold inG; omega)]
      exact ⟨e, by rw [hZ.out, if_neg (by rw [e]; decide)]⟩
    clear hE2 hZ
    obtain ⟨W7, hW7, hth7, hb7, hk7⟩ := put_box hi ⟨0, 0, 0⟩
    have hB7 := hk7 _ _ (Nat.le_succ _) hB
    have hr7 := hb7.range
    clear hk7 hi
    go_wp2_with (first | (refine wpList_store_row rfl _ _ rfl (w.heap.size + 1) rfl (ins3 ⟨0, 0, 0⟩) rfl hth7 hszI (ins3_one _) hW7 ?_) | fail)
    refine bodyPost_ret (v := .tuple #[.agg (ins3 ⟨0, 0, 0⟩).toArray, .int .i64 35]) (results_row2 rfl _ _ (w.heap.size + 1) rfl (.int .i64 35) rfl (ins3 ⟨0, 0, 0⟩) hr7 hundI rfl hszI) rfl ?_
    exact ⟨by rw [hEJ.out.1, hEJ.out.2], hB7⟩
  obtain ⟨j, hj, hjl⟩ : ∃ j : Nat, c.off = (j : Int) ∧ j < x.g.ws.length := ⟨c.off.toNat, by omega, by omega⟩
  have hE3 : Aside (E = if decE (wAt x.g (j : Int)) ≠ 0 then 36 else 0) := by
    show _ = _
    rw [hE2.out, if_neg (by unfold inG; omega), hj]
  rw [hj] at hZ z1
  obtain ⟨y, hy, hyc⟩ := hx3.word hjl
  have hfit := wAt_fit hgok (j : Int)
  have kd := fun (W : World) => riDec_any (wAt x.g (j : Int)) hfit W
  generalize wAt x.g (j : Int) = wd at *
  rw [hy] at y1
  have i1 : (j : Int) < (x.g.ws.length : Int) := by omega
  have i2 : ¬ (x.g.ws.length : Int) ≤ (j : Int) := by omega
  have i3 : ¬ (j : Int) < 0 := by omega
  clear hE2 c4 c5 hj hy hgok hfit hrg
  generalize x.g.ws.length = ln at *
  go_wp2_with fail
  refine (kd W4).mono ?_
  rintro e W5 ⟨rfl, hb⟩
  replace hi := stab_blk _ _ _ _ hi hb
  replace hB := Below.then hB hb
  have hd6 := blkl_alloc W5 (ins3 (decI wd)).toArray 64
  have hb := alloc_below W5 (.cells (ins3 (decI wd)).toArray 64)
  replace hd6 : BlkL W5.heap.size (ins3 (decI wd)) (W5.alloc (.cells (ins3 (decI wd)).toArray 64)) := hd6
  replace hi := stab_blk _ _ _ _ hi hb
  replace hB := Below.then hB hb
  clear hb kd y1 hyc hx3 hs z1
  go_upto_region 9 with fail
  generalize W5.alloc (.cells #[.int .i64 (decI wd).o, .int .i64 (decI wd).p, .int .i64 (decI wd).n] 64) = W6 at *
  generalize W5.heap.size = gd at *
  by_cases c6 : decE wd = 0
  rotate_left
  · have hEJ : Aside (E = 36 ∧ J = ⟨0, 0, 0⟩) := by
      have e : E = 36 := by rw [hE3.out, if_pos c6]
      exact ⟨e, by rw [hZ.out, if_neg (by rw [e]; decide)]⟩
    have q : (decE wd != 0) = true := by simpa using c6
    have hrg : W6.rangeAt gd 0 (ins3 (decI wd)) := hd6.range
    generalize decE wd = ee at *
    clear hE3 hZ c6
    obtain ⟨W7, hW7, hth7, hb7, hk7⟩ := put_box hi ⟨0, 0, 0⟩
    have hB7 := hk7 _ _ (Nat.le_succ _) hB
    have hr7 := hb7.range
    clear hk7 hi
    go_wp2_with (first | (refine wpList_store_row rfl _ _ rfl (w.heap.size + 1) rfl (ins3 ⟨0, 0, 0⟩) rfl hth7 hszI (ins3_one _) hW7 ?_) | fail)
    refine bodyPost_ret (v := .tuple #[.agg (ins3 ⟨0, 0, 0⟩).toArray, .int .i64 36]) (results_row2 rfl _ _ (w.heap.size + 1) rfl (.int .i64 36) rfl (ins3 ⟨0, 0, 0⟩) hr7 hundI rfl hszI) rfl ?_
    exact ⟨by rw [hEJ.out.1, hEJ.out.2], hB7⟩
  have hEJ : Aside (E = 0 ∧ J = decI wd) := by
    have e : E = 0 := by rw [hE3.out, if_neg (by simpa using c6)]
    exact ⟨e, by rw [hZ.out, if_pos e]⟩
  have hr8 := hd6.range
  rw [c6]
  generalize decI wd = D at *
  clear hE3 hZ c6
  obtain ⟨W7, hW7, hth7, hb7, hk7⟩ := put_box hi D
  have hB7 := hk7 _ _ (Nat.le_succ _) hB
  have hr7 := hb7.range
  clear hk7 hi
  go_wp2_with (first | (refine wpList_load_row rfl _ rfl gd rfl (ins3 D) hr8 hundI rfl hszI ?_) | (refine wpList_store_row rfl _ _ rfl (w.heap.size + 1) rfl (ins3 D) rfl hth7 hszI (ins3_one _) hW7 ?_) | fail)
  refine bodyPost_ret (v := .tuple #[.agg (ins3 D).toArray, .int .i64 0]) (results_row2 rfl _ _ (w.heap.size + 1) rfl (.int .i64 0) rfl (ins3 D) hr7 hundI rfl hszI) rfl ?_
  exact ⟨by rw [hEJ.out.1, hEJ.out.2], hB7⟩
end Go.Proofs.Ytinibccphecdfaa

/-! THE DOCUMENT'S OWN PROCESSOR (donjonref16): what is read. Written by mk_cpuref2.py. -/
namespace Go.Proofs.Ytinibccphecdfaa
open Go.RowKit
set_option maxRecDepth 8000
set_option linter.unusedSimpArgs false
set_option linter.unusedVariables false

theorem ptr3J_one (i : Ptr) : ∀ v ∈ ptr3 i, v.oneCell' = true := fun v hv => by simp [ptr3] at hv; rcases hv with rfl | rfl | rfl <;> rfl
set_option maxRecDepth 8000 in
set_option maxHeartbeats 4000000 in
theorem rrd_any (c : Cp) (v : Value) (hc : c.Ok) (i : Ins) (hi : insE i = 0) (m : List PG) (a : Option Addr) (cap : Nat) (hml : m.length < 1000000) (w : World) (hG : RowG w a m) :
    Calls Try.prog 39 #[.agg (stCs c v).toArray, .slice a m.length cap, i.v] w fun e w' => e = .returned (.tuple #[.int .i64 (if rdE c (m.map (·.g)) i = 0 then rdW c (m.map (·.g)) i else 0), .int .i64 (rdE c (m.map (·.g)) i)]) ∧ Below w.heap.size w w' := by
  have hundG := Try.underlying57
  have hszG : (Try.prog.info? 57).map (·.size) = some 7 := by kernel_rfl
  have hundR := Try.underlying55
  have hszR : (Try.prog.info? 55).map (·.size) = some 4 := by kernel_rfl
  have hundP := Try.underlying24
  have hszP : (Try.prog.info? 24).map (·.size) = some 3 := by kernel_rfl
  have h4 := hc.ps
  have hs0 : StAt w.heap.size c v (w.alloc (.cells (stCs c v).toArray 39)) := ⟨h4, blkl_alloc w (stCs c v).toArray 39⟩
  have hB0 := alloc_below w (.cells (stCs c v).toArray 39)
  obtain ⟨⟨o0, o1⟩, p0, p1, n0, n1⟩ := insE_zero.1 hi
  obtain ⟨k, hk, hk4⟩ : ∃ k : Nat, i.p = (k : Int) ∧ k < 4 := ⟨i.p.toNat, by omega, by omega⟩
  have hpo := pAt_ok hc i.p
  have hp : pAt c i.p = c.ps.getD k ⟨0, 0, 0⟩ := by unfold pAt; rw [hk, Int.toNat_natCast]
  obtain ⟨p, hpp⟩ : ∃ p, c.ps.getD k ⟨0, 0, 0⟩ = p := ⟨_, rfl⟩
  rw [hpp] at hp
  rw [hp] at hpo
  have hg := knP_g m p.s
  have kk := fun (W : World) (h : RowG W a m) => rkn_any m a cap p.s hml W h
  have kat := fun (W : World) (h : RowG W a m) => knP_at h p.s
  obtain ⟨x, hx⟩ : ∃ x, knP m p.s = x := ⟨_, rfl⟩
  rw [hx] at hg
  simp only [hx] at kk kat
  have hms : mSeg c (m.map (·.g)) i = x.g := by unfold mSeg; rw [hp, hg]
  have hmo : mOff c i = p.f + i.n := by unfold mOff; rw [hp]
  have hmr : mRing c i = gmax c.ring p.r := by unfold mRing; rw [hp]
  obtain ⟨R, hR⟩ : ∃ R, gmax c.ring p.r = R := ⟨_, rfl⟩
  obtain ⟨o, ho⟩ : ∃ o, p.f + i.n = o := ⟨_, rfl⟩
  have how : IntKind.i64.wrap (p.f + i.n) = o := by rw [IntKind.wrap_i64]; omega
  have hE : rdE c (m.map (·.g)) i = if x.g.is = false then 35 else if hasM x.g.md 1 = false ∨ mayR x.g.rg R = false then 31 else if ¬ inG x.g o then 35 else 0 := by unfold rdE; rw [hms, hmo, hmr, hR, ho]
  have hZ : rdW c (m.map (·.g)) i = wAt x.g o := by unfold rdW; rw [hms, hmo, ho]
  obtain ⟨E, hEE⟩ : ∃ E, rdE c (m.map (·.g)) i = E := ⟨_, rfl⟩
  rw [hEE] at hE
  rw [hEE, hZ]
  obtain ⟨J, hJ⟩ : ∃ J, (if E = 0 then wAt x.g o else 0) = J := ⟨_, rfl⟩
  rw [hJ]
  replace hE : Aside (E = if x.g.is = false then 35 else if hasM x.g.md 1 = false ∨ mayR x.g.rg R = false then 31 else if ¬ inG x.g o then 35 else 0) := hE
  replace hJ : Aside ((if E = 0 then wAt x.g o else 0) = J) := hJ
  have hgm : (if c.ring < p.r then p.r else c.ring) = R := hR
  clear hEE hZ hx hg hml hms hmo hmr ho hR hp hpo hi hc o0 o1 p0 p1 n0 n1
  obtain ⟨cs, hcs⟩ : ∃ cs, stCs c v = cs := ⟨_, rfl⟩
  simp only [hcs] at hs0 hB0
  rw [hcs]
  clear hcs
  have hv : i.v = .agg #[.int .i64 i.o, .int .i64 (k : Int), .int .i64 i.n] := by rw [← hk]
  rw [hv]
  clear hv hk
  go_enter Try.func39, Try.ntmps39
  go_upto_region 1 with fail
  have hi0 := blkl_alloc (w.alloc (.cells cs.toArray 39)) (ins3 ⟨i.o, (k : Int), i.n⟩).toArray 64
  have hb := alloc_below (w.alloc (.cells cs.toArray 39)) (.cells (ins3 ⟨i.o, (k : Int), i.n⟩).toArray 64)
  have hsw : (w.alloc (.cells cs.toArray 39)).heap.size = w.heap.size + 1 := by simp
  replace hi0 : BlkL (w.heap.size + 1) (ins3 ⟨i.o, (k : Int), i.n⟩) ((w.alloc (.cells cs.toArray 39)).alloc (.cells #[.int .i64 i.o, .int .i64 (k : Int), .int .i64 i.n] 64)) := by rw [← hsw]; exact hi0
  have hs1 : StAt w.heap.size c v ((w.alloc (.cells cs.toArray 39)).alloc (.cells #[.int .i64 i.o, .int .i64 (k : Int), .int .i64 i.n] 64)) := hs0.keep hb
  have hB1 : Below w.heap.size w ((w.alloc (.cells cs.toArray 39)).alloc (.cells #[.int .i64 i.o, .int .i64 (k : Int), .int .i64 i.n] 64)) := Below.then hB0 hb
  clear hb hs0 hB0 hsw
  generalize (w.alloc (.cells cs.toArray 39)).alloc (.cells #[.int .i64 i.o, .int .i64 (k : Int), .int .i64 i.n] 64) = W0 at *
  have q1 := (hi0.1 1 _ rfl).1
  have q2 := (hi0.1 2 _ rfl).1
  have hpt := hs1.ptr hk4
  rw [hpp] at hpt
  have j1 : (k : Int) < 4 := by omega
  go_upto_region 2 with (first | (refine wpList_load_midg (by rfl) _ rfl w.heap.size (4 + k * 3) rfl (ptr3 p) hpt hundP rfl hszP ?_) | fail)
  have hp1 := blkl_alloc W0 (ptr3 p).toArray 24
  have hb := alloc_below W0 (.cells (ptr3 p).toArray 24)
  replace hp1 : BlkL W0.heap.size (ptr3 p) (W0.alloc (.cells #[.int .i64 p.s, .int .i64 p.f, .int .i64 p.r] 24)) := hp1
  replace hb : Below W0.heap.size W0 (W0.alloc (.cells #[.int .i64 p.s, .int .i64 p.f, .int .i64 p.r] 24)) := hb
  have hs2 := hs1.keep hb
  have hi2 := stab_blk _ _ _ _ hi0 hb
  have hB2 := Below.then hB1 hb
  generalize W0.alloc (.cells #[.int .i64 p.s, .int .i64 p.f, .int .i64 p.r] 24) = W1 at *
  generalize W0.heap.size = bp at *
  clear hb hs1 hi0 hB1 q1 q2 hpt
  have hG2 := hG.below hB2
  have z0 := (hp1.1 0 _ rfl).1
  go_wp2_with fail
  refine (kk W1 hG2).mono ?_
  rintro e W2 ⟨rfl, hb⟩
  have hs3 := hs2.keep hb
  have hi3 := stab_blk _ _ _ _ hi2 hb
  have hp3 := stab_blk _ _ _ _ hp1 hb
  have hB3 := Below.then hB2 hb
  have hat := kat W2 (hG2.below hb)
  obtain ⟨W3, hW3, hth3, hx3, hb3⟩ := new_pg W2 x hat
  have hs := hs3.keep hb3
  have hi := stab_blk _ _ _ _ hi3 hb3
  have hpp3 := stab_blk _ _ _ _ hp3 hb3
  have hB := Below.then hB3 hb3
  clear hs2 hi2 hB2 hb3 hat hb hp1 hs3 hi3 hp3 hB3 z0 kk kat hG2 hG
  go_upto_region 3 with (first | (refine wpList_store_row rfl _ _ rfl W2.heap.size rfl x.cs rfl hth3 hszG (pg_one _) hW3 ?_) | fail)
  clear hW3 hth3
  generalize W2.heap.size = bg at *
  have y0 := hx3.is
  have y1 := hx3.ws
  have y2 := hx3.md
  have hrg := hx3.rg
  have z1 := (hpp3.1 1 _ rfl).1
  have z2 := (hpp3.1 2 _ rfl).1
  have z3 := (hi.1 2 _ rfl).1
  have z4 := hs.ring
  unfold PG.v at y1
  by_cases c1 : x.g.is = false
  · have hEJ : Aside (E = 35 ∧ J = 0) := by
      have e : E = 35 := by rw [hE.out, if_pos c1]
      exact ⟨e, by rw [← hJ.out, if_neg (by rw [e]; decide)]⟩
    rw [c1] at y0
    clear hE hJ c1
    go_wp2_with fail
    refine bodyPost_ret (v := .tuple #[.int .i64 0, .int .i64 35]) (by simp [results, Try.results39, go_sem]) rfl ?_
    exact ⟨by rw [hEJ.out.1, hEJ.out.2], hB⟩
  have c1' : x.g.is = true := by simpa using c1
  rw [c1'] at y0
  by_cases c2 : hasM x.g.md 1 = false
  · have hEJ : Aside (E = 31 ∧ J = 0) := by
      have e : E = 31 := by rw [hE.out, if_neg c1, if_pos (.inl c2)]
      exact ⟨e, by rw [← hJ.out, if_neg (by rw [e]; decide)]⟩
    have q : (bits .and .i64 x.g.md 1 == 0) = true := by unfold hasM at c2; simpa using c2
    clear hE hJ c1 c2 c1'
    go_wp2_with fail
    refine bodyPost_ret (v := .tuple #[.int .i64 0, .int .i64 31]) (by simp [results, Try.results39, go_sem]) rfl ?_
    exact ⟨by rw [hEJ.out.1, hEJ.out.2], hB⟩
  have q2 : (bits .and .i64 x.g.md 1 == 0) = false := by unfold hasM at c2; simpa using c2
  have hb8 : x.g.rg.v = .agg (rg4 x.g.rg).toArray := rfl
  have kx := fun (W : World) => rmayRead_any x.g.rg R W
  rw [hb8] at kx
  go_wp2_with (first | (refine wpList_load_midg (by rfl) _ rfl bg 3 rfl (rg4 x.g.rg) hrg hundR rfl hszR ?_) | fail)
  refine (kx W3).mono ?_
  rintro e W4 ⟨rfl, hb⟩
  replace hx3 := hx3.keep hb
  replace hB := Below.then hB hb
  replace y1 := hx3.ws
  unfold PG.v at y1
  clear y0 y2 z1 z2 z3 z4 hb kx hb8 q2 hs hi hpp3 hrg
  cases c3 : mayR x.g.rg R with
  | false =>
    have hEJ : Aside (E = 31 ∧ J = 0) := by
      have e : E = 31 := by rw [hE.out, if_neg c1, if_pos (.inr c3)]
      exact ⟨e, by rw [← hJ.out, if_neg (by rw [e]; decide)]⟩
    clear hE hJ c1 c2 c1' c3
    go_wp2_with fail
    refine bodyPost_ret (v := .tuple #[.int .i64 0, .int .i64 31]) (by simp [results, Try.results39, go_sem]) rfl ?_
    exact ⟨by rw [hEJ.out.1, hEJ.out.2], hB⟩
  | true =>
  have hE2 : Aside (E = if ¬ inG x.g o then 35 else 0) := by
    show _ = _
    rw [hE.out, if_neg c1, if_neg (by rw [c3]; simpa using c2)]
  clear hE c1 c2 c1' c3
  by_cases c4 : o < 0
  · have hEJ : Aside (E = 35 ∧ J = 0) := by
      have e : E = 35 := by rw [hE2.out, if_pos (by unfold inG; omega)]
      exact ⟨e, by rw [← hJ.out, if_neg (by rw [e]; decide)]⟩
    clear hE2 hJ
    go_wp2_with fail
    refine bodyPost_ret (v := .tuple #[.int .i64 0, .int .i64 35]) (by simp [results, Try.results39, go_sem]) rfl ?_
    exact ⟨by rw [hEJ.out.1, hEJ.out.2], hB⟩
  by_cases c5 : (x.g.ws.length : Int) ≤ o
  · have hEJ : Aside (E = 35 ∧ J = 0) := by
      have e : E = 35 := by rw [hE2.out, if_pos (by unfold inG; omega)]
      exact ⟨e, by rw [← hJ.out, if_neg (by rw [e]; decide)]⟩
    clear hE2 hJ
    go_wp2_with fail
    refine bodyPost_ret (v := .tuple #[.int .i64 0, .int .i64 35]) (by simp [results, Try.results39, go_sem]) rfl ?_
    exact ⟨by rw [hEJ.out.1, hEJ.out.2], hB⟩
  obtain ⟨j, hj, hjl⟩ : ∃ j : Nat, o = (j : Int) ∧ j < x.g.ws.length := ⟨o.toNat, by omega, by omega⟩
  have hEJ : Aside (E = 0 ∧ J = wAt x.g (j : Int)) := by
    have e : E = 0 := by rw [hE2.out, if_neg (by unfold inG; omega)]
    exact ⟨e, by rw [← hJ.out, if_pos e, hj]⟩
  subst hj
  obtain ⟨y, hy, hyc⟩ := hx3.word hjl
  generalize wAt x.g (j : Int) = wd at *
  rw [hy] at y1
  have i1 : (j : Int) < (x.g.ws.length : Int) := by omega
  have i2 : ¬ (x.g.ws.length : Int) ≤ (j : Int) := by omega
  have i3 : ¬ (j : Int) < 0 := by omega
  clear hE2 c4 c5 hy hJ
  generalize x.g.ws.length = ln at *
  go_wp2_with fail
  refine bodyPost_ret (v := .tuple #[.int .i64 wd, .int .i64 0]) (by simp [results, Try.results39, go_sem]) rfl ?_
  exact ⟨by rw [hEJ.out.1, hEJ.out.2], hB⟩
end Go.Proofs.Ytinibccphecdfaa

/-! THE DOCUMENT'S OWN PROCESSOR (donjonref16): the pointers' rings raised; a call. -/
namespace Go.Proofs.Ytinibccphecdfaa
open Go.RowKit
set_option maxRecDepth 8000
set_option linter.unusedSimpArgs false
set_option linter.unusedVariables false

def raiseK (c : Cp) (r : Int) (k : Nat) : Cp := { c with ps := (c.ps.take k).map (fun p => ⟨p.s, p.f, gmax p.r r⟩) ++ c.ps.drop k }
theorem four {l : List Ptr} (h : l.length = 4) : ∃ p q r s, l = [p, q, r, s] := by
  match l, h with
  | [p, q, r, s], _ => exact ⟨p, q, r, s, rfl⟩
theorem raise_step {c : Cp} (h : c.ps.length = 4) (v : Value) (r : Int) {k : Nat} (hk : k < 4) : (stCs (raiseK c r k) v).set (4 + k * 3 + 2) (.int .i64 (gmax (c.ps.getD k ⟨0, 0, 0⟩).r r)) = stCs (raiseK c r (k + 1)) v := by
  obtain ⟨p0, p1, p2, p3, hl⟩ := four h
  obtain ⟨s, o, rg, a, ps, st, hl'⟩ := c
  simp only at hl
  subst hl
  match k, hk with
  | 0, _ => rfl
  | 1, _ => rfl
  | 2, _ => rfl
  | 3, _ => rfl
theorem raise_ptr {c : Cp} (h : c.ps.length = 4) (r : Int) {k : Nat} (hk : k < 4) : (raiseK c r k).ps.getD k ⟨0, 0, 0⟩ = c.ps.getD k ⟨0, 0, 0⟩ := by
  obtain ⟨p0, p1, p2, p3, hl⟩ := four h
  obtain ⟨s, o, rg, a, ps, st, hl'⟩ := c
  simp only at hl
  subst hl
  match k, hk with
  | 0, _ => rfl
  | 1, _ => rfl
  | 2, _ => rfl
  | 3, _ => rfl
theorem raise_len {c : Cp} (h : c.ps.length = 4) (r : Int) (k : Nat) : (raiseK c r k).ps.length = 4 := by
  simp only [raiseK, List.length_append, List.length_map, List.length_take, List.length_drop]
  omega
theorem raise_zero (c : Cp) (r : Int) : raiseK c r 0 = c := by simp [raiseK]
theorem raise_four {c : Cp} (h : c.ps.length = 4) (r : Int) : raiseK c r 4 = raiseC c r := by
  unfold raiseK raiseC
  rw [List.take_of_length_le (by omega), List.drop_of_length_le (by omega), List.append_nil]
theorem st_one (c : Cp) (v : Value) (hv : v.oneCell' = true) : ∀ u ∈ stCs c v, u.oneCell' = true := fun u hu => by
  unfold stCs at hu
  rcases List.mem_append.1 hu with hu | hu
  · simp at hu
    rcases hu with rfl | rfl | rfl | rfl <;> rfl
  · rcases List.mem_append.1 hu with hu | hu
    · obtain ⟨p, _, hp⟩ := List.mem_flatMap.1 hu
      exact ptr3J_one p u hp
    · simp at hu
      rcases hu with rfl | rfl
      · exact hv
      · rfl
abbrev nilS : Value := .slice none 0 0
abbrev zS : Array Value := #[.int .i64 0, .int .i64 0, .int .i64 0, .int .i64 0, .int .i64 0, .int .i64 0, .int .i64 0, .int .i64 0, .int .i64 0, .int .i64 0, .int .i64 0, .int .i64 0, .int .i64 0, .int .i64 0, .int .i64 0, .int .i64 0, .slice none 0 0, .bool false]
theorem zS_eq : (stCs zeroC nilS).toArray = zS := rfl
theorem put_st {W : World} {g : Nat} {c : Cp} {v : Value} (h : StAt g c v W) {d : Cp} (hd : d.ps.length = 4) (u : Value) : ∃ W', W.setCells g 0 (stCs d u) = W' ∧ W.there g 0 (stCs d u).length ∧ StAt g d u W' ∧ ∀ B W0, B ≤ g → Below B W0 W → Below B W0 W' := by
  obtain ⟨W', h1, h2, h3, h5⟩ := put_any h.blk (ds := stCs d u) (by rw [st_len h.ps, st_len hd]) (by rw [st_len hd]; decide)
  exact ⟨W', h1, h2, ⟨hd, h3⟩, h5⟩
theorem far_blk {W : World} {g b : Nat} {cs : List Value} (h : BlkL g cs W) (hne : b ≠ g) (o : Nat) (u : Value) : BlkL g cs (W.setCell ⟨b, o, none⟩ u) := by
  refine ⟨fun j v hv => ?_, by simpa using h.2⟩
  have h1 := h.1 j v hv
  refine ⟨?_, ?_⟩
  · rw [World.cell?_setCell_far _ _ _ _ (by show b ≠ g; exact hne)]
    exact h1.1
  · rw [World.frozen?_setCell]
    exact h1.2
set_option maxRecDepth 8000 in
set_option maxHeartbeats 4000000 in
theorem rraise_any (c : Cp) (v : Value) (h4 : c.ps.length = 4) (hv : v.oneCell' = true) (r : Int) (w : World) :
    Calls Try.prog 46 #[.agg (stCs c v).toArray, .int .i64 r] w fun e w' => e = .returned (.agg (stCs (raiseC c r) v).toArray) ∧ Below w.heap.size w w' := by
  have hundS := Try.underlying39
  have hszS : (Try.prog.info? 39).map (·.size) = some 18 := by kernel_rfl
  have hs0 : StAt w.heap.size c v (w.alloc (.cells (stCs c v).toArray 39)) := ⟨h4, blkl_alloc w (stCs c v).toArray 39⟩
  have hB0 := alloc_below w (.cells (stCs c v).toArray 39)
  have ht0 : StAt (w.alloc (.cells (stCs c v).toArray 39)).heap.size zeroC nilS ((w.alloc (.cells (stCs c v).toArray 39)).alloc (.cells zS 39)) := ⟨rfl, blkl_alloc _ (stCs zeroC nilS).toArray 39⟩
  have hb1 := alloc_below (w.alloc (.cells (stCs c v).toArray 39)) (.cells zS 39)
  have hsw : (w.alloc (.cells (stCs c v).toArray 39)).heap.size = w.heap.size + 1 := by simp
  have hs1 := hs0.keep hb1
  have hB1 := Below.then hB0 hb1
  rw [hsw] at ht0
  clear hs0 hB0 hb1 hsw
  have hE : Aside (∀ W, StAt w.heap.size (raiseK c r 4) v W → StAt w.heap.size (raiseC c r) v W) := by intro W h; rw [raise_four h4] at h; exact h
  obtain ⟨cs, hcs⟩ : ∃ cs, stCs c v = cs := ⟨_, rfl⟩
  rw [hcs] at hs1 hB1 ht0 ⊢
  clear hcs
  obtain ⟨X, hX⟩ : ∃ X, stCs (raiseC c r) v = X := ⟨_, rfl⟩
  rw [hX]
  go_enter Try.func46, Try.ntmps46
  go_upto_region 1 with fail
  generalize (w.alloc (.cells cs.toArray 39)).alloc (.cells zS 39) = W0 at *
  rw [← raise_zero c r] at hs1
  go_wp2_with fail
  go_loopw [5] (fun t5 wr => ∃ k : Nat, k ≤ 4 ∧ t5 = .int .i64 (k : Int) ∧ StAt w.heap.size (raiseK c r k) v wr ∧ StAt (w.heap.size + 1) zeroC nilS wr ∧ Below w.heap.size w wr) (fun t5 _ => 4 - (Go.RowKit.intOf t5).toNat)
  case atStart => exact ⟨0, by omega, rfl, hs1, ht0, hB1⟩
  case round =>
  clear hs1 ht0 hB1
  obtain ⟨k, hk, rfl, hs, ht, hB⟩ := hrel
  by_cases hk4 : k < 4
  · have i1 : (k : Int) < 4 := by omega
    have hp := raise_ptr h4 r hk4
    have hidx := st_ptr (c := raiseK c r k) (v := v) (raise_len h4 r k) hk4 (j := 2) (by decide)
    rw [hp] at hidx
    have hst := raise_step h4 v r hk4
    obtain ⟨p, hpp⟩ : ∃ p, c.ps.getD k ⟨0, 0, 0⟩ = p := ⟨_, rfl⟩
    rw [hpp] at hidx hst
    have hcell := hs.blk.1 (4 + k * 3 + 2) _ hidx
    have hc1 := hcell.1
    have hf1 := hcell.2
    replace hc1 : wr.cell? ⟨w.heap.size, 4 + k * 3 + 2, none⟩ = some (.int .i64 p.r) := hc1
    have hset := hs.blk.1.set (4 + k * 3 + 2) (.int .i64 (gmax p.r r)) (by rw [st_len hs.ps]; omega)
    rw [hst] at hset
    have hlt := hset.lt (List.getElem?_eq_getElem (by rw [st_len (raise_len h4 r (k + 1))]; decide : 0 < (stCs (raiseK c r (k + 1)) v).length))
    have hs2 : StAt w.heap.size (raiseK c r (k + 1)) v (wr.setCell ⟨w.heap.size, 4 + k * 3 + 2, none⟩ (.int .i64 (gmax p.r r))) := ⟨raise_len h4 r (k + 1), hset, hlt⟩
    have ht2 : StAt (w.heap.size + 1) zeroC nilS (wr.setCell ⟨w.heap.size, 4 + k * 3 + 2, none⟩ (.int .i64 (gmax p.r r))) := ⟨rfl, far_blk ht.blk (show w.heap.size ≠ w.heap.size + 1 by omega) _ _⟩
    have hB2 := hB.setCell (p := ⟨w.heap.size, 4 + k * 3 + 2, none⟩) (Nat.le_refl _) (.int .i64 (gmax p.r r))
    obtain ⟨G, hG⟩ : ∃ G, gmax p.r r = G := ⟨_, rfl⟩
    rw [hG] at hs2 ht2 hB2
    have hgm : (if p.r < r then r else p.r) = G := hG
    clear hset hlt hcell hidx hst hp hpp hs ht hB hG
    go_wp2_with fail
    exact ⟨⟨k + 1, by omega, by simp, hs2, ht2, hB2⟩, by simp [Go.RowKit.intOf]; omega⟩
  · obtain rfl : k = 4 := by omega
    have hs4 := hE.out wr hs
    obtain ⟨W3, hW3, hth3, ht3, hk3⟩ := put_st ht (d := raiseC c r) (by rw [← raise_four h4 r]; exact raise_len h4 r 4) v
    have hB3 := hk3 _ _ (Nat.le_succ _) hB
    have hr := hs4.blk.range
    have hr3 := ht3.blk.range
    have hone := st_one (raiseC c r) v hv
    have hlen : (stCs (raiseC c r) v).length = 18 := st_len ht3.ps
    rw [hX] at hW3 hth3 hr hr3 hone hlen
    have hszX : (Try.prog.info? 39).map (·.size) = some X.length := by rw [hlen]; exact hszS
    clear hs hs4 ht ht3 hk3 hB hE hX hlen
    go_wp2_with (first | (refine wpList_load_row rfl _ rfl w.heap.size rfl X hr hundS rfl hszX ?_) | (refine wpList_store_row rfl _ _ rfl (w.heap.size + 1) rfl X rfl hth3 hszX hone hW3 ?_) | fail)
    refine bodyPost_ret (v := .agg X.toArray) (results_row1 rfl _ _ (w.heap.size + 1) rfl X hr3 hundS rfl hszX) rfl ?_
    exact ⟨rfl, hB3⟩
end Go.Proofs.Ytinibccphecdfaa

/-! A ROW OF ONE STRUCT, BUILT (append of a struct). For every stage from the eleventh on. -/
namespace Go.Proofs.Ytinibccphecdfaa
open Go.RowKit
set_option maxRecDepth 8000
set_option linter.unusedSimpArgs false
set_option linter.unusedVariables false

theorem fill_one {s : Nat} (hs : 0 < s) (zs : Array Value) (cs : List Value) (hz : zs.size = s) (hc : cs.length = s) : Instr.fill (fun i => some (i * s, s)) zs [(0, .agg cs.toArray)] = some cs.toArray := by
  obtain ⟨r, h1, h2, h3⟩ := Great.fill_dense hs [.agg cs.toArray] 0 zs (fun v hv => by rw [List.mem_singleton] at hv; subst hv; simp [Value.cells, hc]) (by simp [hz])
  rw [show ([Value.agg cs.toArray].zipIdx 0).map (fun x => (x.2, x.1)) = [(0, .agg cs.toArray)] from rfl] at h1
  rw [h1]
  congr 1
  apply Array.ext_getElem?
  intro k
  rw [h3 k]
  by_cases hk : k < s
  · rw [if_pos (by simp; omega)]
    simp [Nat.div_eq_of_lt hk, Nat.mod_eq_of_lt hk, Value.cells]
  · rw [if_neg (by simp; omega)]
    simp [Array.getElem?_eq_none (show zs.size ≤ k by omega), List.getElem?_eq_none (show cs.length ≤ k by omega)]
section
variable {ops : Array Oper} {rest : List Oper} {o : Oper} {a : Act} {w : World} {Q : Exit → Act → World → Prop}
theorem run_build1 {α : Type} {e t : TypeId} {sz : Nat} {f : α → List Value} (hE : ElemOk e t sz f) (hsz : sz ≤ 1000) (w : World) (cs : List Value) (hc : cs.length = sz) : (Instr.buildSlice t 1 #[(0, .agg cs.toArray)]).run Try.prog w = .ok (.slice (some ⟨w.heap.size, 0, none⟩) 1 1) (w.alloc (.cells cs.toArray e)) := by
  obtain ⟨i, z, b, hi, hz, hs, hb, hzs, hbb⟩ := hE.info
  have hp := hE.pos
  refine run_buildSlice (P := Try.prog) w t e 1 #[(0, .agg cs.toArray)] cs.toArray i z hE.und hi hz (by rw [hs]; omega) (by rw [hs]; omega) ?_
  rw [hs, Nat.one_mul]
  exact fill_one hp _ cs (by simp) hc
theorem wpList_build1 {α : Type} {e t : TypeId} {sz : Nat} {f : α → List Value} (hE : ElemOk e t sz f) (hsz : sz ≤ 1000) (hg : o.guard = none) (x : Operand) (ho : o.op = .buildSlice t 1 #[(0, x)]) (cs : List Value) (hx : a.eval x = .agg cs.toArray) (hc : cs.length = sz)
    (h : wpList Try.prog ops Q rest (a.put o.dst (.slice (some ⟨w.heap.size, 0, none⟩) 1 1)) (w.alloc (.cells cs.toArray e))) : wpList Try.prog ops Q (o :: rest) a w := by
  refine wpList_value hg ?_ h
  unfold execOp
  have hr := run_build1 hE hsz w cs hc
  simp [ho, hx, hr, Result.andThen]
  try rfl
theorem step_build1 {α : Type} {e t : TypeId} {sz : Nat} {f : α → List Value} {K : Act → World → Prop} {E : Prop} (hE : ElemOk e t sz f) (hsz : sz ≤ 1000) (hg : o.guard = none) (x : Operand) (ho : o.op = .buildSlice t 1 #[(0, x)]) (cs : List Value) (hx : a.eval x = .agg cs.toArray) (hc : cs.length = sz)
    (hK : K (a.put o.dst (.slice (some ⟨w.heap.size, 0, none⟩) 1 1)) (w.alloc (.cells cs.toArray e))) :
    if Region.wanted o (yielded ops a.tmps) = true then Oper.wp Try.prog o a w K Q else E := by
  have hw : Region.wanted o (yielded ops a.tmps) = true := by simp [Region.wanted, hg]
  rw [if_pos hw]
  unfold Oper.wp execOp
  have hr := run_build1 hE hsz w cs hc
  simp [ho, hx, hr, Result.andThen]
  exact hK
end
end Go.Proofs.Ytinibccphecdfaa

/-! THE LAWS' SMALL FUNCTIONS OF CHAPTER 16: states compared, and turned into the document's. -/
namespace Go.Proofs.Ytinibccphecdfaa
open Go.RowKit
set_option maxRecDepth 8000
set_option linter.unusedSimpArgs false
set_option linter.unusedVariables false

def frc (f : Fr) : List Value := [.int .i64 f.s, .int .i64 f.f, .int .i64 f.r]
theorem frc_len (f : Fr) : (frc f).length = 3 := rfl
theorem frs_load (w : World) (y : Addr) (v : Value) (h : w.cell? y = some v) : (Instr.loadAt 37 (.pointer (some y))).run Try.prog w = .ok v w := by
  have h1 := Try.underlying37
  go_simp
set_option maxHeartbeats 400000 in
theorem w16_any (k m : Int) (h0 : 0 < m) (h1 : m < 1000000000000) (w : World) :
    Calls Try.prog 16 #[.int .i64 k, .int .i64 m] w fun e w' => e = .returned (.int .i64 (k % m)) ∧ w' = w := by
  have b1 := Int.lt_tmod_of_pos k h0
  have b2 := Int.tmod_lt_of_pos k h0
  have hm0 : ¬ m = 0 := by omega
  have hm1 : ¬ m = -1 := by omega
  by_cases hn : k.tmod m < 0
  · have e1 : k % m = k.tmod m + m := by
      rw [Int.tmod_eq_emod] at hn ⊢
      split at hn
      · have := Int.emod_nonneg k (by omega : m ≠ 0); omega
      · rename_i hc; rw [if_neg hc]; rw [Int.natAbs_of_nonneg (by omega)]; omega
    rw [e1]
    clear e1
    go_enter Try.func16, Try.ntmps16
    go_wp2
    go_ret
    exact ⟨rfl, rfl⟩
  · have e1 : k % m = k.tmod m := by
      rw [Int.tmod_eq_emod] at hn ⊢
      split
      · simp
      · rename_i hc
        rw [if_neg hc] at hn
        have := Int.emod_lt_of_pos k h0
        rw [Int.natAbs_of_nonneg (by omega)] at *
        omega
    rw [e1]
    clear e1
    go_enter Try.func16, Try.ntmps16
    go_wp2
    go_ret
    exact ⟨rfl, rfl⟩
theorem StAt.pts {b : Nat} {c : Cp} {v : Value} {W : World} (h : StAt b c v W) : W.rangeAt b 4 (c.ps.flatMap ptr3) := fun j u hu => by
  have hj : j < 12 := by have := (List.getElem?_eq_some_iff.1 hu).1; rw [flat_length ptr3_len, h.ps] at this; exact this
  refine (h.blk.1 (4 + j) u ?_).1
  unfold stCs
  rw [List.getElem?_append_right (by show 4 ≤ 4 + j; omega), show 4 + j - [Value.int .i64 c.seg, .int .i64 c.off, .int .i64 c.ring, .int .i64 c.a].length = j by show 4 + j - 4 = j; omega]
  rw [List.getElem?_append_left (by rw [flat_length ptr3_len, h.ps]; omega), hu]
theorem eqIn_ptr (p : Ptr) (d : Nat) (w : World) : (Op.equalIn (d + 2) 24 (.agg (ptr3 p).toArray) (.agg (ptr3 p).toArray)).run Try.prog w = .ok true w := by
  have h1 := Try.underlying24
  have h2 := Try.underlying3
  go_simp
theorem part_pts (p0 p1 p2 p3 : Ptr) (k : Nat) (p : Ptr) (h : [p0, p1, p2, p3][k]? = some p) (w : World) : (part 24 ([p0, p1, p2, p3].flatMap ptr3).toArray (k * 3)).run Try.prog w = .ok (.agg (ptr3 p).toArray) w := by
  have h1 := Try.underlying24
  match k, h with
  | 0, h => obtain rfl : p0 = p := by simpa using h
            unfold part
            go_simp
  | 1, h => obtain rfl : p1 = p := by simpa using h
            unfold part
            go_simp
  | 2, h => obtain rfl : p2 = p := by simpa using h
            unfold part
            go_simp
  | 3, h => obtain rfl : p3 = p := by simpa using h
            unfold part
            go_simp
theorem run_neq_pts {ps : List Ptr} (h : ps.length = 4) (w : World) : (binOp .neq 25 (.agg (ps.flatMap ptr3).toArray) (.agg (ps.flatMap ptr3).toArray)).run Try.prog w = .ok (.bool false) w := by
  obtain ⟨p0, p1, p2, p3, rfl⟩ := four h
  have h1 := Try.underlying25
  have e0 := part_pts p0 p1 p2 p3 0 p0 rfl
  have e1 := part_pts p0 p1 p2 p3 1 p1 rfl
  have e2 := part_pts p0 p1 p2 p3 2 p2 rfl
  have e3 := part_pts p0 p1 p2 p3 3 p3 rfl
  have q0 := eqIn_ptr p0 9997
  have q1 := eqIn_ptr p1 9997
  have q2 := eqIn_ptr p2 9997
  have q3 := eqIn_ptr p3 9997
  generalize ([p0, p1, p2, p3].flatMap ptr3).toArray = X at *
  have key : (Op.equalIn 10000 25 (.agg X) (.agg X)).run Try.prog w = .ok true w := by
    unfold Op.equalIn
    simp only [Sem.run_bind, run_underlying h1, Result.andThen_ok]
    have hs : ∀ w, (sizeOf 24).run Try.prog w = .ok 3 w := fun w => by go_simp
    simp only [hs, Result.andThen_ok, Std.Legacy.Range.forIn_eq_forIn_range', Std.Legacy.Range.size, Nat.sub_zero, Nat.add_one_sub_one, Nat.div_one, List.range', List.forIn_cons, List.forIn_nil, Sem.run_bind, Sem.run_pure, e0, e1, e2, e3, q0, q1, q2, q3, Nat.reduceMul, Nat.zero_add, Nat.reduceAdd, Nat.zero_mul, Bool.not_true, Bool.false_eq_true, if_false]
  go_simp
theorem run_neq_fr (f : Fr) (w : World) : (binOp .neq 85 (.agg (frc f).toArray) (.agg (frc f).toArray)).run Try.prog w = .ok (.bool false) w := by
  have h1 := Try.underlying85
  unfold frc
  go_simp
set_option maxRecDepth 8000 in
set_option maxHeartbeats 4000000 in
/-- Two states that are alike but for where their stacks lie. -/
theorem csame_any (c : Cp) (h4 : c.ps.length = 4) (a1 a2 : Option Addr) (c1 c2 : Nat) (w : World) (hn : c.st.length ≤ 1000) (r1 : RowAt 3 frc w a1 c.st) (r2 : RowAt 3 frc w a2 c.st) :
    Calls Try.prog 13 #[.agg (stCs c (.slice a1 c.st.length c1)).toArray, .agg (stCs c (.slice a2 c.st.length c2)).toArray] w fun e w' => e = .returned (.bool true) ∧ Below w.heap.size w w' := by
  have hundP := Try.underlying25
  have hszP : (Try.prog.info? 25).map (·.size) = some 12 := by kernel_rfl
  have hundF := Try.underlying85
  have hszF : (Try.prog.info? 85).map (·.size) = some 3 := by kernel_rfl
  obtain ⟨n, hnn⟩ : ∃ n, c.st.length = n := ⟨_, rfl⟩
  rw [hnn] at hn ⊢
  replace hnn : Aside (c.st.length = n) := hnn
  have hs0 : StAt w.heap.size c (.slice a1 n c1) (w.alloc (.cells (stCs c (.slice a1 n c1)).toArray 39)) := ⟨h4, blkl_alloc w (stCs c (.slice a1 n c1)).toArray 39⟩
  have hB0 := alloc_below w (.cells (stCs c (.slice a1 n c1)).toArray 39)
  have ht0 : StAt (w.alloc (.cells (stCs c (.slice a1 n c1)).toArray 39)).heap.size c (.slice a2 n c2) ((w.alloc (.cells (stCs c (.slice a1 n c1)).toArray 39)).alloc (.cells (stCs c (.slice a2 n c2)).toArray 39)) := ⟨h4, blkl_alloc _ (stCs c (.slice a2 n c2)).toArray 39⟩
  have hb1 := alloc_below (w.alloc (.cells (stCs c (.slice a1 n c1)).toArray 39)) (.cells (stCs c (.slice a2 n c2)).toArray 39)
  have hsw : (w.alloc (.cells (stCs c (.slice a1 n c1)).toArray 39)).heap.size = w.heap.size + 1 := by simp
  have hs1 := hs0.keep hb1
  have hB1 := Below.then hB0 hb1
  rw [hsw] at ht0
  clear hs0 hB0 hb1 hsw
  obtain ⟨X, hX⟩ : ∃ X, stCs c (.slice a1 n c1) = X := ⟨_, rfl⟩
  obtain ⟨Y, hY⟩ : ∃ Y, stCs c (.slice a2 n c2) = Y := ⟨_, rfl⟩
  rw [hX, hY] at hs1 hB1 ht0 ⊢
  clear hX hY
  have hneq := run_neq_pts h4
  have hp1 := hs1.pts
  have hp2 := ht0.pts
  have hlen : (c.ps.flatMap ptr3).length = 12 := by rw [flat_length ptr3_len, h4]
  obtain ⟨Z, hZ⟩ : ∃ Z, c.ps.flatMap ptr3 = Z := ⟨_, rfl⟩
  rw [hZ] at hp1 hp2 hneq hlen
  clear hZ
  have hszZ : (Try.prog.info? 25).map (·.size) = some Z.length := by rw [hlen]; exact hszP
  clear hlen
  go_enter Try.func13, Try.ntmps13
  go_upto_region 1 with fail
  generalize (w.alloc (.cells X.toArray 39)).alloc (.cells Y.toArray 39) = W0 at *
  have r1' := r1.below frc_len hB1
  have r2' := r2.below frc_len hB1
  have x0 := hs1.seg
  have x1 := hs1.off
  have x2 := hs1.ring
  have x3 := hs1.a
  have x4 := hs1.hl
  have x5 := hs1.stk
  have y0 := ht0.seg
  have y1 := ht0.off
  have y2 := ht0.ring
  have y3 := ht0.a
  have y4 := ht0.hl
  have y5 := ht0.stk
  clear r1 r2 hs1 ht0
  go_wp2_with (first | (refine wpList_load_midg (by rfl) _ rfl w.heap.size 4 rfl Z hp1 hundP rfl hszZ ?_) | (refine wpList_load_midg (by rfl) _ rfl (w.heap.size + 1) 4 rfl Z hp2 hundP rfl hszZ ?_) | fail)
  go_loopw [5] (fun t5 wr => ∃ k : Nat, k ≤ n ∧ t5 = .int .i64 (k : Int) ∧ Below W0.heap.size W0 wr) (fun t5 _ => n - (Go.RowKit.intOf t5).toNat)
  case atStart => exact ⟨0, by omega, rfl, Below.refl _ _⟩
  case round =>
  obtain ⟨k, hk, rfl, hd⟩ := hrel
  replace x5 := (hd.cell (World.block_lt_of_cell? _ _ x5)).trans x5
  replace y5 := (hd.cell (World.block_lt_of_cell? _ _ y5)).trans y5
  replace r1' := r1'.below frc_len hd
  replace r2' := r2'.below frc_len hd
  clear x0 x1 x2 x3 x4 y0 y1 y2 y3 y4 hp1 hp2 hneq
  by_cases hkn : k < n
  · obtain ⟨f, hf⟩ : ∃ f, c.st[k]? = some f := ⟨_, List.getElem?_eq_getElem (by rw [hnn.out]; exact hkn)⟩
    obtain ⟨z1, rfl, -⟩ := r1' k f hf
    obtain ⟨z2, rfl, -⟩ := r2' k f hf
    have g1 := r1'.at frc_len hf
    have g2 := r2'.at frc_len hf
    have hfq := run_neq_fr f
    have i1 : (k : Int) < (n : Int) := by omega
    clear hf r1' r2'
    go_upto_region 6 with fail
    obtain ⟨Z, hZ⟩ : ∃ Z, wr = Z := ⟨_, rfl⟩
    rw [hZ] at x5 y5 g1 g2 hd ⊢
    clear hZ
    have hS0 : Below Z.heap.size Z Z.drew := (Below.refl _ _).drew
    refine wp_region_held_drew (S := (fun W => Below Z.heap.size Z W)) (by kernel_rfl) (by exact hS0) ?_
    intro hHeld
    generalize Z.drew = w0 at *
    refine wpAnyH_take (i := 0) (v := ?_) (by simp only [gA, gB, gC]; rfl) (by kernel_rfl) (by kernel_rfl) (by kernel_rfl) (by exact fun _ _ _ h => h) (Or.inl ⟨by rfl, ?_⟩) (by assumption) ?_; rotate_left; (focus (intro w hSw; (try dsimp only at hSw); go_simp; try with_reducible rfl)); (try simp only [Act.put, sA, sB, sC])
    refine wpAnyH_take (i := 1) (v := _) (by simp only [gA, gB, gC]; rfl) (by kernel_rfl) (by kernel_rfl) (by kernel_rfl) (by exact fun _ _ _ h => h) (yields_cellI (by rfl) _ rfl ⟨w.heap.size, 16, none⟩ rfl (.slice (some z1) n c1) (fun _ q => (q.cell (World.block_lt_of_cell? _ _ x5)).trans x5) frs_load) (by assumption) ?_; (try simp only [Act.put, sA, sB, sC])
    refine wpAnyH_take (i := 2) (v := ?_) (by simp only [gA, gB, gC]; rfl) (by kernel_rfl) (by kernel_rfl) (by kernel_rfl) (by exact fun _ _ _ h => h) (Or.inl ⟨by rfl, ?_⟩) (by assumption) ?_; rotate_left; (focus (intro w hSw; (try dsimp only at hSw); go_simp; try with_reducible rfl)); (try simp only [Act.put, sA, sB, sC])
    refine wpAnyH_take (i := 3) (v := ?_) (by simp only [gA, gB, gC]; rfl) (by kernel_rfl) (by kernel_rfl) (by kernel_rfl) (by exact fun _ _ _ h => h) (Or.inl ⟨by rfl, ?_⟩) (by assumption) ?_; rotate_left; (focus (intro w hSw; (try dsimp only at hSw); go_simp; try with_reducible rfl)); (try simp only [Act.put, sA, sB, sC])
    refine wpAnyH_take (i := 4) (v := _) (by simp only [gA, gB, gC]; rfl) (by kernel_rfl) (by kernel_rfl) (by kernel_rfl) (by exact fun _ _ _ h => h) (yields_at (by rfl) _ rfl (z1.add (k * 3)) rfl (frc f) (fun _ q => CellsAt.below g1 q) hundF rfl hszF) (by assumption) ?_; (try simp only [Act.put, sA, sB, sC])
    refine wpAnyH_take (i := 5) (v := ?_) (by simp only [gA, gB, gC]; rfl) (by kernel_rfl) (by kernel_rfl) (by kernel_rfl) (by exact fun _ _ _ h => h) (Or.inl ⟨by rfl, ?_⟩) (by assumption) ?_; rotate_left; (focus (intro w hSw; (try dsimp only at hSw); go_simp; try with_reducible rfl)); (try simp only [Act.put, sA, sB, sC])
    refine wpAnyH_take (i := 6) (v := _) (by simp only [gA, gB, gC]; rfl) (by kernel_rfl) (by kernel_rfl) (by kernel_rfl) (by exact fun _ _ _ h => h) (yields_cellI (by rfl) _ rfl ⟨(w.heap.size + 1), 16, none⟩ rfl (.slice (some z2) n c2) (fun _ q => (q.cell (World.block_lt_of_cell? _ _ y5)).trans y5) frs_load) (by assumption) ?_; (try simp only [Act.put, sA, sB, sC])
    refine wpAnyH_take (i := 7) (v := ?_) (by simp only [gA, gB, gC]; rfl) (by kernel_rfl) (by kernel_rfl) (by kernel_rfl) (by exact fun _ _ _ h => h) (Or.inl ⟨by rfl, ?_⟩) (by assumption) ?_; rotate_left; (focus (intro w hSw; (try dsimp only at hSw); go_simp; try with_reducible rfl)); (try simp only [Act.put, sA, sB, sC])
    refine wpAnyH_take (i := 8) (v := ?_) (by simp only [gA, gB, gC]; rfl) (by kernel_rfl) (by kernel_rfl) (by kernel_rfl) (by exact fun _ _ _ h => h) (Or.inl ⟨by rfl, ?_⟩) (by assumption) ?_; rotate_left; (focus (intro w hSw; (try dsimp only at hSw); go_simp; try with_reducible rfl)); (try simp only [Act.put, sA, sB, sC])
    refine wpAnyH_take (i := 9) (v := _) (by simp only [gA, gB, gC]; rfl) (by kernel_rfl) (by kernel_rfl) (by kernel_rfl) (by exact fun _ _ _ h => h) (yields_at (by rfl) _ rfl (z2.add (k * 3)) rfl (frc f) (fun _ q => CellsAt.below g2 q) hundF rfl hszF) (by assumption) ?_; (try simp only [Act.put, sA, sB, sC])
    refine wpAnyH_take (i := 10) (v := ?_) (by simp only [gA, gB, gC]; rfl) (by kernel_rfl) (by kernel_rfl) (by kernel_rfl) (by exact fun _ _ _ h => h) (Or.inl ⟨by rfl, ?_⟩) (by assumption) ?_; rotate_left; (focus (intro w hSw; (try dsimp only at hSw); go_simp; try with_reducible rfl)); (try simp only [Act.put, sA, sB, sC])
    refine wpAnyH_done (by kernel_rfl) ?_ _
    have hd2 := Below.then hd hS0
    go_wp2_with fail
    exact ⟨⟨k + 1, by omega, by simp, hd2⟩, by simp [Go.RowKit.intOf]; omega⟩
  · have i1 : ¬ (k : Int) < (n : Int) := by omega
    have hfin := Below.then hB1 hd
    go_wp2_with fail
    go_ret
    exact ⟨rfl, hfin⟩
end Go.Proofs.Ytinibccphecdfaa

/-! THE LAWS' SMALL FUNCTIONS OF CHAPTER 16: a processor's state as the document's. -/
namespace Go.Proofs.Ytinibccphecdfaa
open Go.RowKit
set_option maxRecDepth 8000
set_option linter.unusedSimpArgs false
set_option linter.unusedVariables false

theorem fr_ok : ElemOk 85 37 3 frc :=
  ⟨Try.underlying37, by
    obtain ⟨i, h1, h2, h3, h4⟩ := info_of (e := 85) (z := .agg #[.int .i64 0, .int .i64 0, .int .i64 0]) (sz := 3) (b := 24) (by kernel_rfl)
    exact ⟨i, _, _, h1, h2, h3, h4, rfl, by omega⟩, by omega, fun _ => rfl, fun x u hu => by simp [frc] at hu; rcases hu with rfl | rfl | rfl <;> rfl⟩
theorem crs_load (w : World) (y : Addr) (v : Value) (h : w.cell? y = some v) : (Instr.loadAt 26 (.pointer (some y))).run Try.prog w = .ok v w := by
  have h1 := Try.underlying26
  go_simp
section
variable {ops : Array Oper} {rest : List Oper} {o : Oper} {a : Act} {w : World} {Q : Exit → Act → World → Prop}
theorem wpList_buildv {T : TypeId} (hg : o.guard = none) (fs : Array (Nat × Operand)) (ho : o.op = .build T fs) (vs : Array (Nat × Value)) (hv : (fs.map fun x => (x.1, a.eval x.2)) = vs) {r : Value} (hc : (Instr.build T vs).run Try.prog w = .ok r w)
    (h : wpList Try.prog ops Q rest (a.put o.dst r) w) : wpList Try.prog ops Q (o :: rest) a w := by
  refine wpList_value hg ?_ h
  unfold execOp
  simp only [ho]
  rw [hv]
  simp [hc, Result.andThen]
end
theorem st_build (c : Cp) (h4 : c.ps.length = 4) (w : World) : (Instr.build 39 #[(0, .int .i64 c.seg), (1, .int .i64 c.off), (2, .int .i64 c.ring), (3, .int .i64 c.a), (4, .agg (c.ps.flatMap ptr3).toArray), (6, .bool c.hl)]).run Try.prog w = .ok (.agg (stCs c nilS).toArray) w := by
  obtain ⟨p0, p1, p2, p3, hps⟩ := four h4
  have h1 := Try.underlying39
  unfold stCs
  rw [hps]
  go_simp
/-- A state that was built, in a new block. -/
theorem new_st (W : World) (c : Cp) (h4 : c.ps.length = 4) (v : Value) (T : TypeId) : ∃ W', (W.alloc (.cells zS T)).setCells W.heap.size 0 (stCs c v) = W' ∧ (W.alloc (.cells zS T)).there W.heap.size 0 (stCs c v).length ∧ StAt W.heap.size c v W' ∧ Below W.heap.size W W' := by
  have hb0 : StAt W.heap.size zeroC nilS (W.alloc (.cells zS T)) := ⟨rfl, blkl_alloc W (stCs zeroC nilS).toArray T⟩
  have hB0 := alloc_below W (.cells zS T)
  obtain ⟨W3, hW3, hth3, hb3, hk3⟩ := put_st hb0 h4 v
  exact ⟨W3, hW3, hth3, hb3, hk3 _ _ (Nat.le_refl _) hB0⟩
theorem StAt.keepB {b : Nat} {c : Cp} {v : Value} {W W' : World} {B : Nat} (h : StAt b c v W) (hb : Below B W W') (hlt : b < B) : StAt b c v W' := ⟨h.ps, h.blk.1.same (hb.block b hlt), Nat.lt_of_lt_of_le h.blk.2 hb.size⟩
theorem st_setStk {c : Cp} (h : c.ps.length = 4) (v u : Value) : (stCs c v).set 16 u = stCs c u := by
  obtain ⟨p0, p1, p2, p3, hl⟩ := four h
  obtain ⟨s, o, rg, a, ps, st, hl'⟩ := c
  simp only at hl
  subst hl
  rfl
theorem StAt.setStk {b : Nat} {c : Cp} {v : Value} {W : World} (h : StAt b c v W) (u : Value) : StAt b c u (W.setCell ⟨b, 16, none⟩ u) := by
  have h1 := h.blk.1.set 16 u (by rw [st_len h.ps]; decide)
  rw [st_setStk h.ps] at h1
  exact ⟨h.ps, h1, h1.lt (List.getElem?_eq_getElem (by rw [st_len h.ps]; decide : 0 < (stCs c u).length))⟩
section
variable {ops : Array Oper} {o : Oper} {a : Act} {w : World} {Q : Exit → Act → World → Prop} {T : TypeId}
theorem step_oneJ {K : Act → World → Prop} {E : Prop} (hg : o.guard = none) (x : Operand) (ho : o.op = .load T x) (y : Addr) (hx : a.eval x = .pointer (some y)) (v : Value) (hc : w.cell? y = some v) (hl : ∀ w y v, w.cell? y = some v → (Instr.loadAt T (.pointer (some y))).run Try.prog w = .ok v w) (hK : K (a.put o.dst v) w) :
    if Region.wanted o (yielded ops a.tmps) = true then Oper.wp Try.prog o a w K Q else E := by
  have hw : Region.wanted o (yielded ops a.tmps) = true := by simp [Region.wanted, hg]
  rw [if_pos hw]
  unfold Oper.wp
  simp [execOp, ho, hx, hl w y v hc, Result.andThen]
  exact hK
theorem frs_store (w : World) (y : Addr) (u v : Value) {b : Option Addr} {n c : Nat} (hs : v = .slice b n c) (hc : w.cell? y = some u) (hf : w.frozen? y = false) : (Instr.storeAt 37 (.pointer (some y)) v).run Try.prog w = .ok () (w.setCell y v) := by
  subst hs
  have h1 := Try.underlying37
  go_simp
theorem step_storeJ {K : Act → World → Prop} {E : Prop} (hg : o.guard = none) (x z : Operand) (ho : o.op = .store 37 x z) (y : Addr) (hx : a.eval x = .pointer (some y)) (v : Value) (hz : a.eval z = v) (u : Value) (hc : w.cell? y = some u) (hf : w.frozen? y = false) {b : Option Addr} {n c : Nat} (hs : v = .slice b n c) (hK : K (a.put o.dst undef) (w.setCell y v)) :
    if Region.wanted o (yielded ops a.tmps) = true then Oper.wp Try.prog o a w K Q else E := by
  have hw : Region.wanted o (yielded ops a.tmps) = true := by simp [Region.wanted, hg]
  rw [if_pos hw]
  unfold Oper.wp
  simp [execOp, ho, hx, hz, frs_store w y u v hs hc hf, Result.andThen]
  exact hK
end
set_option maxRecDepth 8000 in
set_option maxHeartbeats 4000000 in
theorem cstate_any (c : Cp) (h4 : c.ps.length = 4) (a1 : Option Addr) (c1 : Nat) (w : World) (hn : c.st.length ≤ 1000) (r1 : RowAt 3 frc w a1 c.st) :
    Calls Try.prog 14 #[.agg (stCs c (.slice a1 c.st.length c1)).toArray] w fun e w' => ∃ v, e = .returned (.agg (stCs c v).toArray) ∧ OwnR 85 3 frc w' w.heap.size v c.st ∧ Below w.heap.size w w' := by
  have hundP := Try.underlying25
  have hszP : (Try.prog.info? 25).map (·.size) = some 12 := by kernel_rfl
  have hundF := Try.underlying85
  have hszF : (Try.prog.info? 85).map (·.size) = some 3 := by kernel_rfl
  have hundS := Try.underlying39
  have hszS : (Try.prog.info? 39).map (·.size) = some 18 := by kernel_rfl
  obtain ⟨n, hnn⟩ : ∃ n, c.st.length = n := ⟨_, rfl⟩
  rw [hnn] at hn ⊢
  replace hnn : Aside (c.st.length = n) := hnn
  have hs0 : StAt w.heap.size c (.slice a1 n c1) (w.alloc (.cells (stCs c (.slice a1 n c1)).toArray 33)) := ⟨h4, blkl_alloc w (stCs c (.slice a1 n c1)).toArray 33⟩
  have hB0 := alloc_below w (.cells (stCs c (.slice a1 n c1)).toArray 33)
  have ht0 : StAt (w.alloc (.cells (stCs c (.slice a1 n c1)).toArray 33)).heap.size zeroC nilS ((w.alloc (.cells (stCs c (.slice a1 n c1)).toArray 33)).alloc (.cells zS 39)) := ⟨rfl, blkl_alloc _ (stCs zeroC nilS).toArray 39⟩
  have hb1 := alloc_below (w.alloc (.cells (stCs c (.slice a1 n c1)).toArray 33)) (.cells zS 39)
  have hsw : (w.alloc (.cells (stCs c (.slice a1 n c1)).toArray 33)).heap.size = w.heap.size + 1 := by simp
  have hs1 := hs0.keep hb1
  have hB1 := Below.then hB0 hb1
  rw [hsw] at ht0
  clear hs0 hB0 hb1 hsw
  obtain ⟨X, hX⟩ : ∃ X, stCs c (.slice a1 n c1) = X := ⟨_, rfl⟩
  rw [hX] at hs1 hB1 ht0 ⊢
  clear hX
  have hp1 := hs1.pts
  have hbd := st_build c h4
  have hlen : (c.ps.flatMap ptr3).length = 12 := by rw [flat_length ptr3_len, h4]
  obtain ⟨Z, hZ⟩ : ∃ Z, c.ps.flatMap ptr3 = Z := ⟨_, rfl⟩
  rw [hZ] at hp1 hlen
  simp only [hZ] at hbd
  clear hZ
  have hszZ : (Try.prog.info? 25).map (·.size) = some Z.length := by rw [hlen]; exact hszP
  clear hlen
  go_enter Try.func14, Try.ntmps14
  go_upto_region 1 with fail
  generalize (w.alloc (.cells X.toArray 33)).alloc (.cells zS 39) = W0 at *
  have x0 := hs1.seg
  have x1 := hs1.off
  have x2 := hs1.ring
  have x3 := hs1.a
  have x4 := hs1.hl
  obtain ⟨W1, hW1, hth1, hc1, hb1⟩ := new_st W0 c h4 nilS 39
  have hone := st_one c nilS rfl
  have hlen2 : (stCs c nilS).length = 18 := st_len h4
  obtain ⟨Y, hY⟩ : ∃ Y, stCs c nilS = Y := ⟨_, rfl⟩
  rw [hY] at hW1 hth1 hone hlen2
  simp only [hY] at hbd
  have hszY : (Try.prog.info? 39).map (·.size) = some Y.length := by rw [hlen2]; exact hszS
  clear hY hlen2
  go_upto_region 2 with (first | (refine wpList_load_midg (by rfl) _ rfl w.heap.size 4 rfl Z hp1 hundP rfl hszZ ?_) | (refine wpList_buildv rfl _ rfl #[(0, .int .i64 c.seg), (1, .int .i64 c.off), (2, .int .i64 c.ring), (3, .int .i64 c.a), (4, .agg Z.toArray), (6, .bool c.hl)] (by simp [Act.eval]) (hbd _) ?_) | (refine wpList_store_row rfl _ _ rfl W0.heap.size rfl Y rfl hth1 hszY hone hW1 ?_) | fail)
  have hs2 := hs1.keep hb1
  have ht2 := ht0.keep hb1
  have hB2 := Below.then hB1 hb1
  have hgt : w.heap.size + 1 < W0.heap.size := ht0.blk.2
  generalize W0.heap.size = bt at *
  clear hW1 hth1 hone hszY hbd hp1 hszZ x0 x1 x2 x3 x4 hs1 ht0 hB1 hb1
  go_wp2_with fail
  go_loopw [4] (fun t4 wr => ∃ (k : Nat) (v : Value), k ≤ n ∧ t4 = .int .i64 (k : Int) ∧ StAt w.heap.size c (.slice a1 n c1) wr ∧ StAt (w.heap.size + 1) zeroC nilS wr ∧ StAt bt c v wr ∧ OwnR 85 3 frc wr (bt + 1) v (c.st.take k) ∧ Below w.heap.size w wr) (fun t4 _ => n - (Go.RowKit.intOf t4).toNat)
  case atStart => exact ⟨0, _, by omega, rfl, hs2, ht2, hc1, OwnR.nil _ _ _ _ _, hB2⟩
  case round =>
  clear hs2 ht2 hc1 hB2
  obtain ⟨k, v, hk, rfl, hs, ht, hst, ho, hB⟩ := hrel
  have x5 := hs.stk
  by_cases hkn : k < n
  · obtain ⟨f, hf⟩ : ∃ f, c.st[k]? = some f := ⟨_, List.getElem?_eq_getElem (by rw [hnn.out]; exact hkn)⟩
    have hstep : c.st.take (k + 1) = c.st.take k ++ [f] := by rw [List.take_add_one, hf]; rfl
    have hzz := r1 k f hf
    have r1' := r1.below frc_len hB
    obtain ⟨z1, hz1, hzc⟩ := hzz
    have hzb : (z1.add (k * 3)).block < bt := by
      have h0 := hzc 0 (by decide)
      have := World.block_lt_of_cell? _ _ (h0.trans rfl)
      rw [Nat.add_zero] at this
      omega
    subst hz1
    have g1 := r1'.at frc_len hf
    have i1 : (k : Int) < (n : Int) := by omega
    replace hstep : Aside (c.st.take (k + 1) = c.st.take k ++ [f]) := hstep
    have hnl := hnn.out
    have ha0 : wr.cell? (z1.add (k * 3)) = some (.int .i64 f.s) := g1 0 _ rfl
    have ha1 : wr.cell? ⟨(z1.add (k * 3)).block, (z1.add (k * 3)).off + 1, none⟩ = some (.int .i64 f.f) := g1 1 _ rfl
    have ha2 : wr.cell? ⟨(z1.add (k * 3)).block, (z1.add (k * 3)).off + 2, none⟩ = some (.int .i64 f.r) := g1 2 _ rfl
    clear hf r1' hzc g1
    go_upto_region 5 with fail
    obtain ⟨Z, hZ⟩ : ∃ Z, wr = Z := ⟨_, rfl⟩
    rw [hZ] at x5 ha0 ha1 ha2 hs ht hst ho hB ⊢
    clear hZ
    have hdr := (Below.refl Z.heap.size Z).drew
    have ho0 := ho.below hdr
    have hst0 := hst.keep hdr
    have hS0 : Below bt Z Z.drew := hdr.mono (Nat.le_of_lt hst.blk.2)
    have hstep := hstep.out
    refine wp_region_held_drew (S := (fun W => Below bt Z W)) (by kernel_rfl) (by exact hS0) ?_
    intro hHeld
    generalize Z.drew = w0 at *
    obtain ⟨v2, W2, hap, ho2, hg2⟩ := OwnR.push fr_ok ho0 (show bt + 1 ≤ w0.heap.size from hst0.blk.2) f (frc f).toArray rfl 85 (by rw [List.length_take]; omega)
    have hb2 := ho0.grew_below (show bt + 1 ≤ w0.heap.size from hst0.blk.2) hg2
    have hbA := alloc_below w0 (.cells (frc f).toArray 85)
    have hstA := hst0.keep hbA
    have hSA := hS0.trans (hbA.mono (Nat.le_of_lt hst0.blk.2))
    have hS2 := hS0.trans (hb2.mono (Nat.le_succ _))
    have hst2 := hst0.keepB hb2 (Nat.lt_succ_self _)
    obtain ⟨a2, cap2, hv2, -, -, -⟩ := ho2.slice frc_len
    refine wpAnyH_take (i := 0) (v := ?_) (by simp only [gA, gB, gC]; rfl) (by kernel_rfl) (by kernel_rfl) (by kernel_rfl) (by exact fun _ _ _ h => h) (Or.inl ⟨by rfl, ?_⟩) (by assumption) ?_; rotate_left; (focus (intro w hSw; (try dsimp only at hSw); go_simp; try with_reducible rfl)); (try simp only [Act.put, sA, sB, sC])
    refine wpAnyH_take (i := 2) (v := ?_) (by simp only [gA, gB, gC]; rfl) (by kernel_rfl) (by kernel_rfl) (by kernel_rfl) (by exact fun _ _ _ h => h) (Or.inl ⟨by rfl, ?_⟩) (by assumption) ?_; rotate_left; (focus (intro w hSw; (try dsimp only at hSw); go_simp; try with_reducible rfl)); (try simp only [Act.put, sA, sB, sC])
    refine wpAnyH_take (i := 3) (v := _) (by simp only [gA, gB, gC]; rfl) (by kernel_rfl) (by kernel_rfl) (by kernel_rfl) (by exact fun _ _ _ h => h) (yields_cellI (by rfl) _ rfl ⟨w.heap.size, 16, none⟩ rfl (.slice (some z1) n c1) (fun _ q => (q.cell (show w.heap.size < bt by omega)).trans x5) crs_load) (by assumption) ?_; (try simp only [Act.put, sA, sB, sC])
    refine wpAnyH_take (i := 4) (v := ?_) (by simp only [gA, gB, gC]; rfl) (by kernel_rfl) (by kernel_rfl) (by kernel_rfl) (by exact fun _ _ _ h => h) (Or.inl ⟨by rfl, ?_⟩) (by assumption) ?_; rotate_left; (focus (intro w hSw; (try dsimp only at hSw); go_simp; try with_reducible rfl)); (try simp only [Act.put, sA, sB, sC])
    refine wpAnyH_take (i := 5) (v := ?_) (by simp only [gA, gB, gC]; rfl) (by kernel_rfl) (by kernel_rfl) (by kernel_rfl) (by exact fun _ _ _ h => h) (Or.inl ⟨by rfl, ?_⟩) (by assumption) ?_; rotate_left; (focus (intro w hSw; (try dsimp only at hSw); go_simp; try with_reducible rfl)); (try simp only [Act.put, sA, sB, sC])
    refine wpAnyH_take (i := 6) (v := ?_) (by simp only [gA, gB, gC]; rfl) (by kernel_rfl) (by kernel_rfl) (by kernel_rfl) (by exact fun _ _ _ h => h) (Or.inl ⟨by rfl, ?_⟩) (by assumption) ?_; rotate_left; (focus (intro w hSw; (try dsimp only at hSw); go_simp; try with_reducible rfl)); (try simp only [Act.put, sA, sB, sC])
    refine wpAnyH_take (i := 7) (v := _) (by simp only [gA, gB, gC]; rfl) (by kernel_rfl) (by kernel_rfl) (by kernel_rfl) (by exact fun _ _ _ h => h) (yields_cellI (by rfl) _ rfl (z1.add (k * 3)) rfl (.int .i64 f.s) (fun _ q => (q.cell (p := (z1.add (k * 3))) hzb).trans ha0) intI_load) (by assumption) ?_; (try simp only [Act.put, sA, sB, sC])
    refine wpAnyH_take (i := 8) (v := ?_) (by simp only [gA, gB, gC]; rfl) (by kernel_rfl) (by kernel_rfl) (by kernel_rfl) (by exact fun _ _ _ h => h) (Or.inl ⟨by rfl, ?_⟩) (by assumption) ?_; rotate_left; (focus (intro w hSw; (try dsimp only at hSw); go_simp; try with_reducible rfl)); (try simp only [Act.put, sA, sB, sC])
    refine wpAnyH_take (i := 9) (v := _) (by simp only [gA, gB, gC]; rfl) (by kernel_rfl) (by kernel_rfl) (by kernel_rfl) (by exact fun _ _ _ h => h) (yields_cellI (by rfl) _ rfl ⟨w.heap.size, 16, none⟩ rfl (.slice (some z1) n c1) (fun _ q => (q.cell (show w.heap.size < bt by omega)).trans x5) crs_load) (by assumption) ?_; (try simp only [Act.put, sA, sB, sC])
    refine wpAnyH_take (i := 10) (v := ?_) (by simp only [gA, gB, gC]; rfl) (by kernel_rfl) (by kernel_rfl) (by kernel_rfl) (by exact fun _ _ _ h => h) (Or.inl ⟨by rfl, ?_⟩) (by assumption) ?_; rotate_left; (focus (intro w hSw; (try dsimp only at hSw); go_simp; try with_reducible rfl)); (try simp only [Act.put, sA, sB, sC])
    refine wpAnyH_take (i := 11) (v := ?_) (by simp only [gA, gB, gC]; rfl) (by kernel_rfl) (by kernel_rfl) (by kernel_rfl) (by exact fun _ _ _ h => h) (Or.inl ⟨by rfl, ?_⟩) (by assumption) ?_; rotate_left; (focus (intro w hSw; (try dsimp only at hSw); go_simp; try with_reducible rfl)); (try simp only [Act.put, sA, sB, sC])
    refine wpAnyH_take (i := 12) (v := ?_) (by simp only [gA, gB, gC]; rfl) (by kernel_rfl) (by kernel_rfl) (by kernel_rfl) (by exact fun _ _ _ h => h) (Or.inl ⟨by rfl, ?_⟩) (by assumption) ?_; rotate_left; (focus (intro w hSw; (try dsimp only at hSw); go_simp; try with_reducible rfl)); (try simp only [Act.put, sA, sB, sC])
    refine wpAnyH_take (i := 13) (v := _) (by simp only [gA, gB, gC]; rfl) (by kernel_rfl) (by kernel_rfl) (by kernel_rfl) (by exact fun _ _ _ h => h) (yields_cellI (by rfl) _ rfl ⟨(z1.add (k * 3)).block, (z1.add (k * 3)).off + 1, none⟩ rfl (.int .i64 f.f) (fun _ q => (q.cell (p := ⟨(z1.add (k * 3)).block, (z1.add (k * 3)).off + 1, none⟩) hzb).trans ha1) intI_load) (by assumption) ?_; (try simp only [Act.put, sA, sB, sC])
    refine wpAnyH_take (i := 14) (v := ?_) (by simp only [gA, gB, gC]; rfl) (by kernel_rfl) (by kernel_rfl) (by kernel_rfl) (by exact fun _ _ _ h => h) (Or.inl ⟨by rfl, ?_⟩) (by assumption) ?_; rotate_left; (focus (intro w hSw; (try dsimp only at hSw); go_simp; try with_reducible rfl)); (try simp only [Act.put, sA, sB, sC])
    refine wpAnyH_take (i := 15) (v := _) (by simp only [gA, gB, gC]; rfl) (by kernel_rfl) (by kernel_rfl) (by kernel_rfl) (by exact fun _ _ _ h => h) (yields_cellI (by rfl) _ rfl ⟨w.heap.size, 16, none⟩ rfl (.slice (some z1) n c1) (fun _ q => (q.cell (show w.heap.size < bt by omega)).trans x5) crs_load) (by assumption) ?_; (try simp only [Act.put, sA, sB, sC])
    refine wpAnyH_take (i := 16) (v := ?_) (by simp only [gA, gB, gC]; rfl) (by kernel_rfl) (by kernel_rfl) (by kernel_rfl) (by exact fun _ _ _ h => h) (Or.inl ⟨by rfl, ?_⟩) (by assumption) ?_; rotate_left; (focus (intro w hSw; (try dsimp only at hSw); go_simp; try with_reducible rfl)); (try simp only [Act.put, sA, sB, sC])
    refine wpAnyH_take (i := 17) (v := ?_) (by simp only [gA, gB, gC]; rfl) (by kernel_rfl) (by kernel_rfl) (by kernel_rfl) (by exact fun _ _ _ h => h) (Or.inl ⟨by rfl, ?_⟩) (by assumption) ?_; rotate_left; (focus (intro w hSw; (try dsimp only at hSw); go_simp; try with_reducible rfl)); (try simp only [Act.put, sA, sB, sC])
    refine wpAnyH_take (i := 18) (v := ?_) (by simp only [gA, gB, gC]; rfl) (by kernel_rfl) (by kernel_rfl) (by kernel_rfl) (by exact fun _ _ _ h => h) (Or.inl ⟨by rfl, ?_⟩) (by assumption) ?_; rotate_left; (focus (intro w hSw; (try dsimp only at hSw); go_simp; try with_reducible rfl)); (try simp only [Act.put, sA, sB, sC])
    refine wpAnyH_take (i := 19) (v := _) (by simp only [gA, gB, gC]; rfl) (by kernel_rfl) (by kernel_rfl) (by kernel_rfl) (by exact fun _ _ _ h => h) (yields_cellI (by rfl) _ rfl ⟨(z1.add (k * 3)).block, (z1.add (k * 3)).off + 2, none⟩ rfl (.int .i64 f.r) (fun _ q => (q.cell (p := ⟨(z1.add (k * 3)).block, (z1.add (k * 3)).off + 2, none⟩) hzb).trans ha2) intI_load) (by assumption) ?_; (try simp only [Act.put, sA, sB, sC])
    refine wpAnyH_take (i := 20) (v := ?_) (by simp only [gA, gB, gC]; rfl) (by kernel_rfl) (by kernel_rfl) (by kernel_rfl) (by exact fun _ _ _ h => h) (Or.inl ⟨by rfl, ?_⟩) (by assumption) ?_; rotate_left; (focus (intro w hSw; (try dsimp only at hSw); go_simp; try with_reducible rfl)); (try simp only [Act.put, sA, sB, sC])
    refine wpAnyH_ready (rs := [1, 21]) (by kernel_rfl) (by simp) ?_
    refine AllReadyH.cons (by simp only [gA, gB, gC]; rfl) (fun K hK => ?_) ?_
    · skip
      refine step_oneJ rfl _ rfl ⟨bt, 16, none⟩ rfl v hst0.stk frs_load ?_
      (try simp only [Act.put, sA, sB, sC])
      refine hK.out _ _ (hS0) ?_
      clear hHeld hK
      intro hHeld
      (try simp only [Act.put, sA, sB, sC])
      refine wpAnyH_ready (rs := [21]) (by kernel_rfl) (by simp) ?_
      refine AllReadyH.cons (by simp only [gA, gB, gC]; rfl) (fun K hK => ?_) AllReadyH.nil
      refine step_build1 fr_ok (by decide) rfl _ rfl (frc f) rfl rfl ?_
      (try simp only [Act.put, sA, sB, sC])
      refine hK.out _ _ (hSA) ?_
      clear hHeld hK
      intro hHeld
      (try simp only [Act.put, sA, sB, sC])
      refine wpAnyH_ready (rs := [22]) (by kernel_rfl) (by simp) ?_
      refine AllReadyH.cons (by simp only [gA, gB, gC]; rfl) (fun K hK => ?_) AllReadyH.nil
      refine step_append rfl _ _ rfl rfl rfl rfl hap ?_
      (try simp only [Act.put, sA, sB, sC])
      refine hK.out _ _ (hS2) ?_
      clear hHeld hK
      intro hHeld
      clear hap
      (try simp only [Act.put, sA, sB, sC])
      refine wpAnyH_take (i := 23) (v := ?_) (by simp only [gA, gB, gC]; rfl) (by kernel_rfl) (by kernel_rfl) (by kernel_rfl) (by exact fun _ _ _ h => h) (Or.inl ⟨by rfl, ?_⟩) (by assumption) ?_; rotate_left; (focus (intro w hSw; (try dsimp only at hSw); go_simp; try with_reducible rfl)); (try simp only [Act.put, sA, sB, sC])
      refine wpAnyH_ready (rs := [24]) (by kernel_rfl) (by simp) ?_
      refine AllReadyH.cons (by simp only [gA, gB, gC]; rfl) (fun K hK => ?_) AllReadyH.nil
      have hfz := (hst2.blk.1 16 _ (st_stk h4)).2
      have hst3 := hst2.setStk v2
      have ho3 := ho2.keep (w' := W2.setCell ⟨bt, 16, none⟩ v2) (fun q hq => heap_setCell_other _ ⟨bt, 16, none⟩ q _ (by have := (ho2.lt hq).1; show q ≠ bt; omega))
      rw [← hstep] at ho3
      have hS3 := hS2.setCell (p := ⟨bt, 16, none⟩) (Nat.le_refl _) v2
      have hfs := hs.keepB hS3 (show w.heap.size < bt by omega)
      have hft := ht.keepB hS3 hgt
      have hB3 := hB.trans (hS3.mono (show w.heap.size ≤ bt by omega))
      refine step_storeJ rfl _ _ rfl ⟨bt, 16, none⟩ rfl v2 rfl _ hst2.stk hfz hv2 ?_
      (try simp only [Act.put, sA, sB, sC])
      refine hK.out _ _ (hS3) ?_
      clear hHeld hK
      intro hHeld
      (try simp only [Act.put, sA, sB, sC])
      refine wpAnyH_done (by kernel_rfl) ?_ _
      clear hv2
      go_wp2_with fail
      exact ⟨⟨k + 1, v2, by omega, by simp, hfs, hft, hst3, ho3, hB3⟩, by simp [Go.RowKit.intOf]; omega⟩
    refine AllReadyH.cons (by simp only [gA, gB, gC]; rfl) (fun K hK => ?_) AllReadyH.nil
    refine step_build1 fr_ok (by decide) rfl _ rfl (frc f) rfl rfl ?_
    (try simp only [Act.put, sA, sB, sC])
    refine hK.out _ _ (hSA) ?_
    clear hHeld hK
    intro hHeld
    (try simp only [Act.put, sA, sB, sC])
    refine wpAnyH_ready (rs := [1]) (by kernel_rfl) (by simp) ?_
    refine AllReadyH.cons (by simp only [gA, gB, gC]; rfl) (fun K hK => ?_) AllReadyH.nil
    refine step_oneJ rfl _ rfl ⟨bt, 16, none⟩ rfl v hstA.stk frs_load ?_
    (try simp only [Act.put, sA, sB, sC])
    refine hK.out _ _ (hSA) ?_
    clear hHeld hK
    intro hHeld
    (try simp only [Act.put, sA, sB, sC])
    refine wpAnyH_ready (rs := [22]) (by kernel_rfl) (by simp) ?_
    refine AllReadyH.cons (by simp only [gA, gB, gC]; rfl) (fun K hK => ?_) AllReadyH.nil
    refine step_append rfl _ _ rfl rfl rfl rfl hap ?_
    (try simp only [Act.put, sA, sB, sC])
    refine hK.out _ _ (hS2) ?_
    clear hHeld hK
    intro hHeld
    clear hap
    (try simp only [Act.put, sA, sB, sC])
    refine wpAnyH_take (i := 23) (v := ?_) (by simp only [gA, gB, gC]; rfl) (by kernel_rfl) (by kernel_rfl) (by kernel_rfl) (by exact fun _ _ _ h => h) (Or.inl ⟨by rfl, ?_⟩) (by assumption) ?_; rotate_left; (focus (intro w hSw; (try dsimp only at hSw); go_simp; try with_reducible rfl)); (try simp only [Act.put, sA, sB, sC])
    refine wpAnyH_ready (rs := [24]) (by kernel_rfl) (by simp) ?_
    refine AllReadyH.cons (by simp only [gA, gB, gC]; rfl) (fun K hK => ?_) AllReadyH.nil
    have hfz := (hst2.blk.1 16 _ (st_stk h4)).2
    have hst3 := hst2.setStk v2
    have ho3 := ho2.keep (w' := W2.setCell ⟨bt, 16, none⟩ v2) (fun q hq => heap_setCell_other _ ⟨bt, 16, none⟩ q _ (by have := (ho2.lt hq).1; show q ≠ bt; omega))
    rw [← hstep] at ho3
    have hS3 := hS2.setCell (p := ⟨bt, 16, none⟩) (Nat.le_refl _) v2
    have hfs := hs.keepB hS3 (show w.heap.size < bt by omega)
    have hft := ht.keepB hS3 hgt
    have hB3 := hB.trans (hS3.mono (show w.heap.size ≤ bt by omega))
    refine step_storeJ rfl _ _ rfl ⟨bt, 16, none⟩ rfl v2 rfl _ hst2.stk hfz hv2 ?_
    (try simp only [Act.put, sA, sB, sC])
    refine hK.out _ _ (hS3) ?_
    clear hHeld hK
    intro hHeld
    (try simp only [Act.put, sA, sB, sC])
    refine wpAnyH_done (by kernel_rfl) ?_ _
    clear hv2
    go_wp2_with fail
    exact ⟨⟨k + 1, v2, by omega, by simp, hfs, hft, hst3, ho3, hB3⟩, by simp [Go.RowKit.intOf]; omega⟩
  · obtain rfl : k = n := by omega
    have i1 : ¬ (k : Int) < (k : Int) := by omega
    rw [List.take_of_length_le (by rw [hnn.out]; exact Nat.le_refl _)] at ho
    obtain ⟨W3, hW3, hth3, ht3, hk3⟩ := put_st ht (d := c) h4 v
    have hB3 := hk3 _ _ (Nat.le_succ _) hB
    have hr := hst.blk.range
    have hr3 := ht3.blk.range
    have hv1 : v.oneCell' = true := by obtain ⟨a2, cap2, rfl, -⟩ := ho.slice frc_len; rfl
    have hone := st_one c v hv1
    have hlen : (stCs c v).length = 18 := st_len h4
    have ho3 : OwnR 85 3 frc W3 w.heap.size v c.st := by
      rw [← hW3]
      exact (ho.setAll (g := w.heap.size + 1) (fun q => by have := (ho.lt q).1; omega) _).lower (by omega)
    obtain ⟨X2, hX⟩ : ∃ X2, stCs c v = X2 := ⟨_, rfl⟩
    rw [hX] at hW3 hth3 hr hr3 hone hlen
    have hfin : Aside (stCs c v = X2) := hX
    have hszX : (Try.prog.info? 39).map (·.size) = some X2.length := by rw [hlen]; exact hszS
    clear hs hst ht ht3 hk3 hB hX hlen ho hv1
    go_wp2_with (first | (refine wpList_load_row rfl _ rfl bt rfl X2 hr hundS rfl hszX ?_) | (refine wpList_store_row rfl _ _ rfl (w.heap.size + 1) rfl X2 rfl hth3 hszX hone hW3 ?_) | fail)
    refine bodyPost_ret (v := .agg X2.toArray) (results_row1 rfl _ _ (w.heap.size + 1) rfl X2 hr3 hundS rfl hszX) rfl ?_
    exact ⟨v, by rw [hfin.out], ho3, hB3⟩
end Go.Proofs.Ytinibccphecdfaa

/-! ROWS COPIED BY append ONTO NONE ([]T{}), whatever their elements: in plain walks and in regions that draw their order. For every stage from the sixteenth on. -/
namespace Go.Proofs.Ytinibccphecdfaa
open Go.RowKit
set_option maxRecDepth 8000
set_option linter.unusedSimpArgs false
set_option linter.unusedVariables false

section
variable {α : Type} {e t : TypeId} {sz : Nat} {f : α → List Value}
theorem OwnR.appendW {w : World} {base : Nat} {v : Value} {l : List α} (hE : ElemOk e t sz f) (h : OwnR e sz f w base v l) (hb : base ≤ w.heap.size) (a : Option Addr) (m c : Nat) (l2 : List α) (hm : l2.length = m) (h2 : RowAt sz f w a l2) (hn : a = none → c = 0 ∧ m = 0) (hl : l.length < 900000) (hl2 : m < 900000) :
    ∃ v' w', (Builtin.append_ #[t, t] t #[v, .slice a m c]).run Try.prog w = .ok v' w' ∧ OwnR e sz f w' base v' (l ++ l2) ∧ Grew w v w' v' := by
  cases a with
  | some y => exact h.append hE hb y m c l2 hm h2 hl hl2
  | none =>
    obtain ⟨rfl, hm0⟩ := hn rfl
    subst hm0
    obtain rfl : l2 = [] := List.eq_nil_of_length_eq_zero hm
    obtain ⟨i, z, b, hi, _⟩ := hE.info
    have ho : w.ownsRow base e sz v l.length (l.flatMap f) := h
    refine ⟨v, w, run_append_owned_none (P := Try.prog) (w := w) base t t e i sz hE.und hi v l.length _ ho, by rw [List.append_nil]; exact h, Grew.refl _ _⟩
/-- A list of none, made. -/
theorem own_emptyW (W : World) {base : Nat} (hb : base ≤ W.heap.size) : OwnR e sz f (W.alloc (.cells #[] e)) base (.slice (some ⟨W.heap.size, 0, none⟩) 0 0) ([] : List α) := by
  refine ⟨by simp, .inr ⟨W.heap.size, 0, #[], rfl, hb, heap_alloc_new W _, Nat.le_refl _, by simp only [maxLen]; omega, ?_, ?_⟩⟩
  · simp
  · simp
/-- A row, copied by append onto none. -/
theorem wasW_run (hE : ElemOk e t sz f) {W : World} {a : Option Addr} {c n : Nat} {l : List α} (h : RowAt sz f W a l) (hl : l.length = n) (hn : a = none → c = 0 ∧ n = 0) (hlt : n < 900000) :
    ∃ v' W', (Builtin.append_ #[t, t] t #[.slice (some ⟨W.heap.size, 0, none⟩) 0 0, .slice a n c]).run Try.prog (W.alloc (.cells #[] e)) = .ok v' W' ∧ OwnR e sz f W' W.heap.size v' l ∧ Below W.heap.size W W' := by
  have hB := alloc_below W (.cells #[] e)
  have ho := own_emptyW (e := e) (sz := sz) (f := f) W (Nat.le_refl W.heap.size)
  obtain ⟨v', W', hap, ho', hg⟩ := OwnR.appendW hE ho (by simp) a n c l hl (h.below hE.len hB) hn (by simp) hlt
  have hb := ho.grew_below (by simp) hg
  rw [List.nil_append] at ho'
  exact ⟨v', W', hap, ho', hB.trans hb⟩
theorem build0_runW (hE : ElemOk e t sz f) (W : World) : (Instr.buildSlice t 0 #[]).run Try.prog W = .ok (.slice (some ⟨W.heap.size, 0, none⟩) 0 0) (W.alloc (.cells #[] e)) := by
  obtain ⟨i, z, b, hi, hz, hs, hb, hzs, hbb⟩ := hE.info
  simp [Instr.buildSlice, run_underlying hE.und, sizeOf, typeInfo, zeroValue, hi, hz, newRow, Instr.fill]
  rw [show Array.range 0 = #[] from rfl, Array.map_empty]
end
section
variable {α : Type} {e t : TypeId} {sz : Nat} {f : α → List Value} {ops : Array Oper} {rest : List Oper} {o : Oper} {a : Act} {w : World} {Q : Exit → Act → World → Prop}
theorem wpList_build0W (hE : ElemOk e t sz f) (hg : o.guard = none) (ho : o.op = .buildSlice t 0 #[])
    (h : wpList Try.prog ops Q rest (a.put o.dst (.slice (some ⟨w.heap.size, 0, none⟩) 0 0)) (w.alloc (.cells #[] e))) : wpList Try.prog ops Q (o :: rest) a w := by
  refine wpList_value hg ?_ h
  unfold execOp
  have hr := build0_runW hE w
  simp [ho, hr, Result.andThen]
  try rfl
theorem step_build0W {K : Act → World → Prop} {E : Prop} (hE : ElemOk e t sz f) (hg : o.guard = none) (ho : o.op = .buildSlice t 0 #[])
    (hK : K (a.put o.dst (.slice (some ⟨w.heap.size, 0, none⟩) 0 0)) (w.alloc (.cells #[] e))) :
    if Region.wanted o (yielded ops a.tmps) = true then Oper.wp Try.prog o a w K Q else E := by
  have hw : Region.wanted o (yielded ops a.tmps) = true := by simp [Region.wanted, hg]
  rw [if_pos hw]
  unfold Oper.wp execOp
  have hr := build0_runW hE w
  simp [ho, hr, Result.andThen]
  exact hK
end
end Go.Proofs.Ytinibccphecdfaa

/-! THE LAWS' MEMORY OF CHAPTER 16: a segment told (*Mem).Segment. Written by mk_cpuseg.py. -/
namespace Go.Proofs.Ytinibccphecdfaa
open Go.RowKit
set_option maxRecDepth 8000
set_option linter.unusedSimpArgs false
set_option linter.unusedVariables false

/-- A memory of segments in the block bm. -/
structure MAt (bm : Nat) (a : Option Addr) (cap : Nat) (m : List PG) (W : World) : Prop where
  cell : W.cell? ⟨bm, 0, none⟩ = some (.slice a m.length cap)
  row : RowG W a m
theorem MAt.below {bm : Nat} {a : Option Addr} {cap : Nat} {m : List PG} {W W' : World} (h : MAt bm a cap m W) (hb : Below W.heap.size W W') : MAt bm a cap m W' := ⟨(hb.cell (World.block_lt_of_cell? _ _ h.cell)).trans h.cell, h.row.below hb⟩
/-- What a processor is told of a segment. -/
def sg6 (g : Sg) (v : Value) : List Value := [v, .int .i64 g.md, .int .i64 g.rg.a, .int .i64 g.rg.b, .int .i64 g.rg.c, .int .i64 g.rg.g]
def tellG (g : Sg) : Sg := if g.is = true then g else zeroG
theorem addC_block (x : Addr) (k : Nat) : (x.add k).block = x.block := by
  unfold Addr.add
  split <;> rfl
theorem wd_okC : ElemOk 2 53 1 wcl :=
  ⟨Try.underlying53, by
    obtain ⟨i, h1, h2, h3, h4⟩ := info_of (e := 2) (z := .int .i64 0) (sz := 1) (b := 8) (by kernel_rfl)
    exact ⟨i, _, _, h1, h2, h3, h4, rfl, by omega⟩, by omega, fun _ => rfl, fun x u hu => by simp [wcl] at hu; subst hu; rfl⟩
theorem sgs_load (w : World) (y : Addr) (v : Value) (h : w.cell? y = some v) : (Instr.loadAt 30 (.pointer (some y))).run Try.prog w = .ok v w := by
  have h1 := Try.underlying30
  go_simp
theorem wds_loadC (w : World) (y : Addr) (v : Value) (h : w.cell? y = some v) : (Instr.loadAt 53 (.pointer (some y))).run Try.prog w = .ok v w := by
  have h1 := Try.underlying53
  go_simp
section
variable {ops : Array Oper} {o : Oper} {a : Act} {w : World} {Q : Exit → Act → World → Prop}
theorem step_store_rowC {T : TypeId} {K : Act → World → Prop} {E : Prop} {W : World} (hg : o.guard = none) (x y : Operand) (ho : o.op = .store T x y) (b : Nat) (hx : a.eval x = .pointer (some ⟨b, 0, none⟩)) (cs : List Value) (hy : a.eval y = .agg cs.toArray)
    (ht : w.there b 0 cs.length) (hi : (Try.prog.info? T).map (·.size) = some cs.length) (h1 : ∀ v ∈ cs, v.oneCell' = true) (hW : w.setCells b 0 cs = W) (hK : K (a.put o.dst undef) W) :
    if Region.wanted o (yielded ops a.tmps) = true then Oper.wp Try.prog o a w K Q else E := by
  have hw : Region.wanted o (yielded ops a.tmps) = true := by simp [Region.wanted, hg]
  rw [if_pos hw]
  exact wp_store_mid T x y ho b 0 cs.toArray hx hy ht hi (all_oneCell_toArray h1) (hW ▸ hK)
end
set_option maxRecDepth 8000 in
set_option maxHeartbeats 4000000 in
/-- A segment that there is none of. -/
theorem mseg_none (bm : Nat) (a : Option Addr) (cap : Nat) (m : List PG) (k : Int) (hml : m.length < 1000000) (w : World) (hM : MAt bm a cap m w) (hno : (kn (m.map (·.g)) k).is = false) :
    Calls Try.prog 19 #[.pointer (some ⟨bm, 0, none⟩), .int .i64 k] w fun e w' => e = .returned (.tuple #[.agg (sg6 zeroG nilS).toArray, .bool false]) ∧ Below w.heap.size w w' := by
  have hB0 := alloc_below w (.cells (sg6 zeroG nilS).toArray 60)
  have hM1 := hM.below hB0
  have x0 := hM1.cell
  by_cases h0 : k < 0
  · go_enter Try.func19, Try.ntmps19
    go_wp2_with fail
    refine bodyPost_ret (v := .tuple #[.agg (sg6 zeroG nilS).toArray, .bool false]) (by simp [results, Try.results19, go_sem, sg6, zeroG]) rfl ?_
    exact ⟨rfl, hB0⟩
  by_cases h1 : (m.length : Int) ≤ k
  · replace x0 : (w.alloc (.cells #[.slice none 0 0, .int .i64 0, .int .i64 0, .int .i64 0, .int .i64 0, .int .i64 0] 60)).cell? ⟨bm, 0, none⟩ = some (.slice a m.length cap) := x0
    generalize m.length = ln at *
    go_enter Try.func19, Try.ntmps19
    go_wp2_with fail
    refine bodyPost_ret (v := .tuple #[.agg (sg6 zeroG nilS).toArray, .bool false]) (by simp [results, Try.results19, go_sem, sg6, zeroG]) rfl ?_
    exact ⟨rfl, hB0⟩
  obtain ⟨j, rfl, hj⟩ : ∃ j : Nat, k = (j : Int) ∧ j < m.length := ⟨k.toNat, by omega, by omega⟩
  obtain ⟨x, hx⟩ : ∃ x, m[j]? = some x := ⟨_, List.getElem?_eq_getElem hj⟩
  have hxg : x.g.is = false := by
    unfold kn at hno
    rw [if_neg h0, List.getD_eq_getElem?_getD, Int.toNat_natCast, List.getElem?_map, hx] at hno
    exact hno
  obtain ⟨y, rfl, -⟩ := hM1.row.row j x hx
  have hcl := hM1.row.row.at pg_len hx
  have ha0 := hcl 0 (.bool x.g.is) rfl
  rw [hxg] at ha0
  replace x0 : (w.alloc (.cells #[.slice none 0 0, .int .i64 0, .int .i64 0, .int .i64 0, .int .i64 0, .int .i64 0] 60)).cell? ⟨bm, 0, none⟩ = some (.slice (some y) m.length cap) := x0
  replace ha0 : (w.alloc (.cells #[.slice none 0 0, .int .i64 0, .int .i64 0, .int .i64 0, .int .i64 0, .int .i64 0] 60)).cell? (y.add (j * 7)) = some (.bool false) := ha0
  have i1 : (j : Int) < (m.length : Int) := by omega
  generalize m.length = ln at *
  go_enter Try.func19, Try.ntmps19
  go_wp2_with fail
  refine bodyPost_ret (v := .tuple #[.agg (sg6 zeroG nilS).toArray, .bool false]) (by simp [results, Try.results19, go_sem, sg6, zeroG]) rfl ?_
  exact ⟨rfl, hB0⟩
set_option maxRecDepth 8000 in
set_option maxHeartbeats 4000000 in
/-- A segment that is known. -/
theorem mseg_some (bm : Nat) (a : Option Addr) (cap : Nat) (m : List PG) (k : Int) (hml : m.length < 1000000) (hok : ∀ x ∈ m, x.g.Ok) (hcap : ∀ x ∈ m, x.wa = none → x.wc = 0) (w : World) (hM : MAt bm a cap m w) (hyes : (kn (m.map (·.g)) k).is = true) :
    Calls Try.prog 19 #[.pointer (some ⟨bm, 0, none⟩), .int .i64 k] w fun e w' => ∃ v, e = .returned (.tuple #[.agg (sg6 (kn (m.map (·.g)) k) v).toArray, .bool true]) ∧ OwnR 2 1 wcl w' w.heap.size v (kn (m.map (·.g)) k).ws ∧ Below w.heap.size w w' := by
  have hundC := Try.underlying60
  have hszC : (Try.prog.info? 60).map (·.size) = some 6 := by kernel_rfl
  have hundR := Try.underlying55
  have hszR : (Try.prog.info? 55).map (·.size) = some 4 := by kernel_rfl
  have hB0 := alloc_below w (.cells (sg6 zeroG nilS).toArray 60)
  have hc0 := blkl_alloc w (sg6 zeroG nilS).toArray 60
  have hbm : bm < w.heap.size := World.block_lt_of_cell? _ _ hM.cell
  obtain ⟨j, hkj, hj⟩ : ∃ j : Nat, k = (j : Int) ∧ j < m.length := by
    unfold kn at hyes
    split at hyes
    · cases hyes
    · refine ⟨k.toNat, by omega, ?_⟩
      rcases Nat.lt_or_ge k.toNat m.length with h | h
      · exact h
      · rw [List.getD_eq_getElem?_getD, List.getElem?_eq_none (by simpa using h)] at hyes
        cases hyes
  subst hkj
  obtain ⟨x, hx⟩ : ∃ x, m[j]? = some x := ⟨_, List.getElem?_eq_getElem hj⟩
  have hxg : kn (m.map (·.g)) (j : Int) = x.g := by
    unfold kn
    rw [if_neg (by omega), List.getD_eq_getElem?_getD, Int.toNat_natCast, List.getElem?_map, hx]
    rfl
  rw [hxg] at hyes ⊢
  have hxm := List.mem_of_getElem? hx
  have hnone0 := hcap x hxm
  have hwl := (hok x hxm).len
  have hM1 := hM.below hB0
  have hat := hM1.row.at_ x hxm
  obtain ⟨y, rfl, hyc⟩ := hM.row.row j x hx
  have hyb : (y.add (j * 7)).block < w.heap.size := World.block_lt_of_cell? _ _ ((hyc 0 (by decide)).trans rfl)
  have hcl := hM1.row.row.at pg_len hx
  have ha0 := hcl 0 (.bool x.g.is) rfl
  rw [hyes] at ha0
  obtain ⟨wn, hwn⟩ : ∃ wn, x.g.ws.length = wn := ⟨_, rfl⟩
  have ha1 := hcl 1 (.slice x.wa x.g.ws.length x.wc) rfl
  have ha2 := hcl 2 (.int .i64 x.g.md) rfl
  have ha3 : CellsAt (w.alloc (.cells (sg6 zeroG nilS).toArray 60)) ⟨(y.add (j * 7)).block, (y.add (j * 7)).off + 3, none⟩ (rg4 x.g.rg) := fun q u hu => by
    match q, hu with
    | 0, hu => exact hcl 3 u hu
    | 1, hu => exact hcl 4 u hu
    | 2, hu => exact hcl 5 u hu
    | 3, hu => exact hcl 6 u hu
    | q + 4, hu => simp at hu
  have x0 := hM1.cell
  rw [hwn] at ha1
  have hnone : x.wa = none → x.wc = 0 ∧ wn = 0 := fun q => ⟨hnone0 q, by
    rcases Nat.eq_zero_or_pos wn with h | h
    · exact h
    · obtain ⟨z, hz, -⟩ := hat 0 (x.g.ws[0]'(by omega)) (List.getElem?_eq_getElem (by omega))
      rw [q] at hz
      cases hz⟩
  have i0 : ¬ (j : Int) < 0 := by omega
  have i1 : (j : Int) < (m.length : Int) := by omega
  have i2 : ¬ (m.length : Int) ≤ (j : Int) := by omega
  replace ha0 : (w.alloc (.cells (sg6 zeroG nilS).toArray 60)).cell? (y.add (j * 7)) = some (.bool true) := ha0
  replace ha1 : (w.alloc (.cells (sg6 zeroG nilS).toArray 60)).cell? ⟨(y.add (j * 7)).block, (y.add (j * 7)).off + 1, none⟩ = some (.slice x.wa wn x.wc) := ha1
  replace ha2 : (w.alloc (.cells (sg6 zeroG nilS).toArray 60)).cell? ⟨(y.add (j * 7)).block, (y.add (j * 7)).off + 2, none⟩ = some (.int .i64 x.g.md) := ha2
  clear hM hM1 hok hcap hnone0 hxm hx hyes hxg hcl hyc hj
  generalize m.length = ln at *
  go_enter Try.func19, Try.ntmps19
  go_upto_region 1 with fail
  have hA : w.alloc (.cells #[.slice none 0 0, .int .i64 0, .int .i64 0, .int .i64 0, .int .i64 0, .int .i64 0] 60) = w.alloc (.cells (sg6 zeroG nilS).toArray 60) := rfl
  rw [hA]
  clear hA
  generalize w.alloc (.cells (sg6 zeroG nilS).toArray 60) = Z at *
  go_upto_region 3 with fail
  have hdr := (Below.refl Z.heap.size Z).drew
  have hsz1 : w.heap.size ≤ Z.heap.size := hB0.size
  have hS0 : Below w.heap.size Z Z.drew := hdr.mono hsz1
  have hrow0 : RowAt 1 wcl Z.drew x.wa x.g.ws := RowAt.below (fun _ => rfl) hat hdr
  have hsz0 : w.heap.size ≤ Z.drew.heap.size := Nat.le_trans hsz1 hdr.size
  replace hc0 : BlkL w.heap.size (sg6 zeroG nilS) Z.drew := stab_blk _ _ _ _ hc0 hdr
  have hB := hB0
  clear hdr ha0
  refine wp_region_held_drew (S := (fun W => Below w.heap.size Z W)) (by kernel_rfl) (by exact hS0) ?_
  intro hHeld
  generalize Z.drew = w0 at *
  obtain ⟨v2, W2, hap, ho2, hb2⟩ := wasW_run wd_okC hrow0 hwn hnone (by omega)
  obtain ⟨a2, cap2, hv2, -, -, -⟩ := ho2.slice wd_okC.len
  rw [hwn] at hv2
  subst hv2
  have hbA := alloc_below w0 (.cells #[] 2)
  have hSA := hS0.trans (hbA.mono hsz0)
  have hS2 := hS0.trans (hb2.mono hsz0)
  refine wpAnyH_take (i := 1) (v := ?_) (by simp only [gA, gB, gC]; rfl) (by kernel_rfl) (by kernel_rfl) (by kernel_rfl) (by exact fun _ _ _ h => h) (Or.inl ⟨by rfl, ?_⟩) (by assumption) ?_; rotate_left; (focus (intro w hSw; (try dsimp only at hSw); go_simp; try with_reducible rfl)); (try simp only [Act.put, sA, sB, sC])
  refine wpAnyH_take (i := 2) (v := ?_) (by simp only [gA, gB, gC]; rfl) (by kernel_rfl) (by kernel_rfl) (by kernel_rfl) (by exact fun _ _ _ h => h) (Or.inl ⟨by rfl, ?_⟩) (by assumption) ?_; rotate_left; (focus (intro w hSw; (try dsimp only at hSw); go_simp; try with_reducible rfl)); (try simp only [Act.put, sA, sB, sC])
  refine wpAnyH_take (i := 3) (v := ?_) (by simp only [gA, gB, gC]; rfl) (by kernel_rfl) (by kernel_rfl) (by kernel_rfl) (by exact fun _ _ _ h => h) (Or.inl ⟨by rfl, ?_⟩) (by assumption) ?_; rotate_left; (focus (intro w hSw; (try dsimp only at hSw); go_simp; try with_reducible rfl)); (try simp only [Act.put, sA, sB, sC])
  refine wpAnyH_take (i := 4) (v := _) (by simp only [gA, gB, gC]; rfl) (by kernel_rfl) (by kernel_rfl) (by kernel_rfl) (by exact fun _ _ _ h => h) (yields_cellI (by rfl) _ rfl ⟨bm, 0, none⟩ rfl (.slice (some y) ln cap) (fun _ q => (q.cell (p := ⟨bm, 0, none⟩) hbm).trans x0) sgs_load) (by assumption) ?_; (try simp only [Act.put, sA, sB, sC])
  refine wpAnyH_take (i := 5) (v := ?_) (by simp only [gA, gB, gC]; rfl) (by kernel_rfl) (by kernel_rfl) (by kernel_rfl) (by exact fun _ _ _ h => h) (Or.inl ⟨by rfl, ?_⟩) (by assumption) ?_; rotate_left; (focus (intro w hSw; (try dsimp only at hSw); go_simp; try with_reducible rfl)); (try simp only [Act.put, sA, sB, sC])
  refine wpAnyH_take (i := 6) (v := ?_) (by simp only [gA, gB, gC]; rfl) (by kernel_rfl) (by kernel_rfl) (by kernel_rfl) (by exact fun _ _ _ h => h) (Or.inl ⟨by rfl, ?_⟩) (by assumption) ?_; rotate_left; (focus (intro w hSw; (try dsimp only at hSw); go_simp; try with_reducible rfl)); (try simp only [Act.put, sA, sB, sC])
  refine wpAnyH_take (i := 7) (v := ?_) (by simp only [gA, gB, gC]; rfl) (by kernel_rfl) (by kernel_rfl) (by kernel_rfl) (by exact fun _ _ _ h => h) (Or.inl ⟨by rfl, ?_⟩) (by assumption) ?_; rotate_left; (focus (intro w hSw; (try dsimp only at hSw); go_simp; try with_reducible rfl)); (try simp only [Act.put, sA, sB, sC])
  refine wpAnyH_take (i := 8) (v := _) (by simp only [gA, gB, gC]; rfl) (by kernel_rfl) (by kernel_rfl) (by kernel_rfl) (by exact fun _ _ _ h => h) (yields_cellI (by rfl) _ rfl ⟨(y.add (j * 7)).block, (y.add (j * 7)).off + 1, none⟩ rfl (.slice x.wa wn x.wc) (fun _ q => (q.cell (p := ⟨(y.add (j * 7)).block, (y.add (j * 7)).off + 1, none⟩) hyb).trans ha1) wds_loadC) (by assumption) ?_; (try simp only [Act.put, sA, sB, sC])
  refine wpAnyH_take (i := 10) (v := ?_) (by simp only [gA, gB, gC]; rfl) (by kernel_rfl) (by kernel_rfl) (by kernel_rfl) (by exact fun _ _ _ h => h) (Or.inl ⟨by rfl, ?_⟩) (by assumption) ?_; rotate_left; (focus (intro w hSw; (try dsimp only at hSw); go_simp; try with_reducible rfl)); (try simp only [Act.put, sA, sB, sC])
  refine wpAnyH_take (i := 11) (v := ?_) (by simp only [gA, gB, gC]; rfl) (by kernel_rfl) (by kernel_rfl) (by kernel_rfl) (by exact fun _ _ _ h => h) (Or.inl ⟨by rfl, ?_⟩) (by assumption) ?_; rotate_left; (focus (intro w hSw; (try dsimp only at hSw); go_simp; try with_reducible rfl)); (try simp only [Act.put, sA, sB, sC])
  refine wpAnyH_take (i := 12) (v := ?_) (by simp only [gA, gB, gC]; rfl) (by kernel_rfl) (by kernel_rfl) (by kernel_rfl) (by exact fun _ _ _ h => h) (Or.inl ⟨by rfl, ?_⟩) (by assumption) ?_; rotate_left; (focus (intro w hSw; (try dsimp only at hSw); go_simp; try with_reducible rfl)); (try simp only [Act.put, sA, sB, sC])
  refine wpAnyH_take (i := 13) (v := _) (by simp only [gA, gB, gC]; rfl) (by kernel_rfl) (by kernel_rfl) (by kernel_rfl) (by exact fun _ _ _ h => h) (yields_cellI (by rfl) _ rfl ⟨bm, 0, none⟩ rfl (.slice (some y) ln cap) (fun _ q => (q.cell (p := ⟨bm, 0, none⟩) hbm).trans x0) sgs_load) (by assumption) ?_; (try simp only [Act.put, sA, sB, sC])
  refine wpAnyH_take (i := 14) (v := ?_) (by simp only [gA, gB, gC]; rfl) (by kernel_rfl) (by kernel_rfl) (by kernel_rfl) (by exact fun _ _ _ h => h) (Or.inl ⟨by rfl, ?_⟩) (by assumption) ?_; rotate_left; (focus (intro w hSw; (try dsimp only at hSw); go_simp; try with_reducible rfl)); (try simp only [Act.put, sA, sB, sC])
  refine wpAnyH_take (i := 15) (v := ?_) (by simp only [gA, gB, gC]; rfl) (by kernel_rfl) (by kernel_rfl) (by kernel_rfl) (by exact fun _ _ _ h => h) (Or.inl ⟨by rfl, ?_⟩) (by assumption) ?_; rotate_left; (focus (intro w hSw; (try dsimp only at hSw); go_simp; try with_reducible rfl)); (try simp only [Act.put, sA, sB, sC])
  refine wpAnyH_take (i := 16) (v := ?_) (by simp only [gA, gB, gC]; rfl) (by kernel_rfl) (by kernel_rfl) (by kernel_rfl) (by exact fun _ _ _ h => h) (Or.inl ⟨by rfl, ?_⟩) (by assumption) ?_; rotate_left; (focus (intro w hSw; (try dsimp only at hSw); go_simp; try with_reducible rfl)); (try simp only [Act.put, sA, sB, sC])
  refine wpAnyH_take (i := 17) (v := _) (by simp only [gA, gB, gC]; rfl) (by kernel_rfl) (by kernel_rfl) (by kernel_rfl) (by exact fun _ _ _ h => h) (yields_cellI (by rfl) _ rfl ⟨(y.add (j * 7)).block, (y.add (j * 7)).off + 2, none⟩ rfl (.int .i64 x.g.md) (fun _ q => (q.cell (p := ⟨(y.add (j * 7)).block, (y.add (j * 7)).off + 2, none⟩) hyb).trans ha2) intI_load) (by assumption) ?_; (try simp only [Act.put, sA, sB, sC])
  refine wpAnyH_take (i := 18) (v := ?_) (by simp only [gA, gB, gC]; rfl) (by kernel_rfl) (by kernel_rfl) (by kernel_rfl) (by exact fun _ _ _ h => h) (Or.inl ⟨by rfl, ?_⟩) (by assumption) ?_; rotate_left; (focus (intro w hSw; (try dsimp only at hSw); go_simp; try with_reducible rfl)); (try simp only [Act.put, sA, sB, sC])
  refine wpAnyH_take (i := 19) (v := ?_) (by simp only [gA, gB, gC]; rfl) (by kernel_rfl) (by kernel_rfl) (by kernel_rfl) (by exact fun _ _ _ h => h) (Or.inl ⟨by rfl, ?_⟩) (by assumption) ?_; rotate_left; (focus (intro w hSw; (try dsimp only at hSw); go_simp; try with_reducible rfl)); (try simp only [Act.put, sA, sB, sC])
  refine wpAnyH_take (i := 20) (v := ?_) (by simp only [gA, gB, gC]; rfl) (by kernel_rfl) (by kernel_rfl) (by kernel_rfl) (by exact fun _ _ _ h => h) (Or.inl ⟨by rfl, ?_⟩) (by assumption) ?_; rotate_left; (focus (intro w hSw; (try dsimp only at hSw); go_simp; try with_reducible rfl)); (try simp only [Act.put, sA, sB, sC])
  refine wpAnyH_take (i := 21) (v := _) (by simp only [gA, gB, gC]; rfl) (by kernel_rfl) (by kernel_rfl) (by kernel_rfl) (by exact fun _ _ _ h => h) (yields_cellI (by rfl) _ rfl ⟨bm, 0, none⟩ rfl (.slice (some y) ln cap) (fun _ q => (q.cell (p := ⟨bm, 0, none⟩) hbm).trans x0) sgs_load) (by assumption) ?_; (try simp only [Act.put, sA, sB, sC])
  refine wpAnyH_take (i := 22) (v := ?_) (by simp only [gA, gB, gC]; rfl) (by kernel_rfl) (by kernel_rfl) (by kernel_rfl) (by exact fun _ _ _ h => h) (Or.inl ⟨by rfl, ?_⟩) (by assumption) ?_; rotate_left; (focus (intro w hSw; (try dsimp only at hSw); go_simp; try with_reducible rfl)); (try simp only [Act.put, sA, sB, sC])
  refine wpAnyH_take (i := 23) (v := ?_) (by simp only [gA, gB, gC]; rfl) (by kernel_rfl) (by kernel_rfl) (by kernel_rfl) (by exact fun _ _ _ h => h) (Or.inl ⟨by rfl, ?_⟩) (by assumption) ?_; rotate_left; (focus (intro w hSw; (try dsimp only at hSw); go_simp; try with_reducible rfl)); (try simp only [Act.put, sA, sB, sC])
  refine wpAnyH_take (i := 24) (v := ?_) (by simp only [gA, gB, gC]; rfl) (by kernel_rfl) (by kernel_rfl) (by kernel_rfl) (by exact fun _ _ _ h => h) (Or.inl ⟨by rfl, ?_⟩) (by assumption) ?_; rotate_left; (focus (intro w hSw; (try dsimp only at hSw); go_simp; try with_reducible rfl)); (try simp only [Act.put, sA, sB, sC])
  refine wpAnyH_take (i := 25) (v := _) (by simp only [gA, gB, gC]; rfl) (by kernel_rfl) (by kernel_rfl) (by kernel_rfl) (by exact fun _ _ _ h => h) (yields_at (by rfl) _ rfl ⟨(y.add (j * 7)).block, (y.add (j * 7)).off + 3, none⟩ rfl (rg4 x.g.rg) (fun _ q jj u hu => (q.cell (by rw [addC_block ⟨(y.add (j * 7)).block, (y.add (j * 7)).off + 3, none⟩ jj]; exact hyb)).trans (ha3 jj u hu)) hundR rfl hszR) (by assumption) ?_; (try simp only [Act.put, sA, sB, sC])
  refine wpAnyH_ready (rs := [0]) (by kernel_rfl) (by simp) ?_
  refine AllReadyH.cons (by simp only [gA, gB, gC]; rfl) (fun K hK => ?_) AllReadyH.nil
  refine step_build0W wd_okC rfl rfl ?_
  (try simp only [Act.put, sA, sB, sC])
  refine hK.out _ _ (hSA) ?_
  clear hHeld hK
  intro hHeld
  (try simp only [Act.put, sA, sB, sC])
  refine wpAnyH_ready (rs := [9]) (by kernel_rfl) (by simp) ?_
  refine AllReadyH.cons (by simp only [gA, gB, gC]; rfl) (fun K hK => ?_) AllReadyH.nil
  refine step_append rfl _ _ rfl rfl rfl rfl hap ?_
  (try simp only [Act.put, sA, sB, sC])
  refine hK.out _ _ (hS2) ?_
  clear hHeld hK
  intro hHeld
  clear hap
  (try simp only [Act.put, sA, sB, sC])
  refine wpAnyH_take (i := 26) (v := ?_) (by simp only [gA, gB, gC]; rfl) (by kernel_rfl) (by kernel_rfl) (by kernel_rfl) (by exact fun _ _ _ h => h) (Or.inl ⟨by rfl, ?_⟩) (by assumption) ?_; rotate_left; (focus (intro w hSw; (try dsimp only at hSw); go_simp; try with_reducible rfl)); (try simp only [Act.put, sA, sB, sC])
  refine wpAnyH_ready (rs := [27]) (by kernel_rfl) (by simp) ?_
  refine AllReadyH.cons (by simp only [gA, gB, gC]; rfl) (fun K hK => ?_) AllReadyH.nil
  have hc2 := stab_blk _ _ _ _ hc0 hb2
  obtain ⟨W7, hW7, hth7, hb7, hk7⟩ := put_any hc2 (ds := sg6 x.g (.slice a2 wn cap2)) rfl (by show 0 < 6; decide)
  have hS7 := hk7 _ _ (Nat.le_refl _) hS2
  have hB7 := hB.trans hS7
  have hr7 := hb7.range
  have ho7 : OwnR 2 1 wcl W7 w.heap.size (.slice a2 wn cap2) x.g.ws := by rw [← hW7]; exact (ho2.setAll (g := w.heap.size) (fun q => by have := (ho2.lt q).1; have := hc0.2; omega) _).lower hsz0
  have hone : ∀ u ∈ sg6 x.g (.slice a2 wn cap2), u.oneCell' = true := fun u hu => by simp [sg6] at hu; rcases hu with rfl | rfl | rfl | rfl | rfl | rfl <;> rfl
  refine step_store_rowC rfl _ _ rfl w.heap.size rfl (sg6 x.g (.slice a2 wn cap2)) rfl hth7 hszC hone hW7 ?_
  (try simp only [Act.put, sA, sB, sC])
  refine hK.out _ _ (hS7) ?_
  clear hHeld hK
  intro hHeld
  (try simp only [Act.put, sA, sB, sC])
  refine wpAnyH_take (i := 28) (v := ?_) (by simp only [gA, gB, gC]; rfl) (by kernel_rfl) (by kernel_rfl) (by kernel_rfl) (by exact fun _ _ _ h => h) (Or.inl ⟨by rfl, ?_⟩) (by assumption) ?_; rotate_left; (focus (intro w hSw; (try dsimp only at hSw); go_simp; try with_reducible rfl)); (try simp only [Act.put, sA, sB, sC])
  refine wpAnyH_done (by kernel_rfl) ?_ _
  go_wp2_with fail
  refine bodyPost_ret (v := .tuple #[.agg (sg6 x.g (.slice a2 wn cap2)).toArray, .bool true]) (results_row2 rfl _ _ w.heap.size rfl (.bool true) rfl (sg6 x.g (.slice a2 wn cap2)) hr7 hundC rfl hszC) rfl ?_
  exact ⟨_, rfl, ho7, hB7⟩
end Go.Proofs.Ytinibccphecdfaa

/-! THE LAWS' MEMORY OF CHAPTER 16: a word noted (*Mem).Write. -/
namespace Go.Proofs.Ytinibccphecdfaa
open Go.RowKit
set_option maxRecDepth 8000
set_option linter.unusedSimpArgs false
set_option linter.unusedVariables false

/-- A memory's cells: its segments' slice, what was written last, how often. -/
def memCs (sl : Value) (is : Bool) (s o x n : Int) : List Value := [sl, .bool is, .int .i64 s, .int .i64 o, .int .i64 x, .int .i64 n]
set_option maxRecDepth 8000 in
set_option maxHeartbeats 2000000 in
theorem mwr_any (bm : Nat) (sl : Value) (is : Bool) (s o x n k off v : Int) (hn : 0 ≤ n ∧ n < 1000000) (w : World) (h : BlkL bm (memCs sl is s o x n) w) :
    Calls Try.prog 116 #[.pointer (some ⟨bm, 0, none⟩), .int .i64 k, .int .i64 off, .int .i64 v] w fun e w' => (∃ r, e = .returned r) ∧ BlkL bm (memCs sl true k off v (n + 1)) w' ∧ (∀ q, q ≠ bm → w'.heap[q]? = w.heap[q]?) ∧ ∀ B W0, B ≤ bm → Below B W0 w → Below B W0 w' := by
  have hw : IntKind.i64.wrap (n + 1) = n + 1 := by rw [IntKind.wrap_i64]; omega
  have c1 := h.1 1 _ rfl
  have c2 := h.1 2 _ rfl
  have c3 := h.1 3 _ rfl
  have c4 := h.1 4 _ rfl
  have c5 := h.1 5 _ rfl
  have a1 := c1.1
  have a2 := c2.1
  have a3 := c3.1
  have a4 := c4.1
  have a5 := c5.1
  have f1 := c1.2
  have f2 := c2.2
  have f3 := c3.2
  have f4 := c4.2
  have f5 := c5.2
  have g1 := h.1.set 1 (.bool true) (by show 1 < 6; decide)
  have g2 := g1.set 2 (.int .i64 k) (by show 2 < 6; decide)
  have g3 := g2.set 3 (.int .i64 off) (by show 3 < 6; decide)
  have g4 := g3.set 4 (.int .i64 v) (by show 4 < 6; decide)
  have g5 := g4.set 5 (.int .i64 (n + 1)) (by show 5 < 6; decide)
  replace g5 : Blk (((((w.setCell ⟨bm, 1, none⟩ (.bool true)).setCell ⟨bm, 2, none⟩ (.int .i64 k)).setCell ⟨bm, 3, none⟩ (.int .i64 off)).setCell ⟨bm, 4, none⟩ (.int .i64 v)).setCell ⟨bm, 5, none⟩ (.int .i64 (n + 1))) bm (memCs sl true k off v (n + 1)) := g5
  clear c1 c2 c3 c4 c5 g1 g2 g3 g4
  go_enter Try.func116, Try.ntmps116
  go_wp2_with fail
  refine bodyPost_end (v := .tuple #[]) (by simp [results, Try.results116, go_sem]) rfl ?_
  refine ⟨⟨_, rfl⟩, ⟨g5, g5.lt rfl⟩, fun q hq => ?_, fun B W0 hB hb => ?_⟩
  · rw [heap_setCell_other _ ⟨bm, 5, none⟩ q _ hq, heap_setCell_other _ ⟨bm, 4, none⟩ q _ hq, heap_setCell_other _ ⟨bm, 3, none⟩ q _ hq, heap_setCell_other _ ⟨bm, 2, none⟩ q _ hq, heap_setCell_other _ ⟨bm, 1, none⟩ q _ hq]
  · exact ((((hb.setCell (p := ⟨bm, 1, none⟩) hB _).setCell (p := ⟨bm, 2, none⟩) hB _).setCell (p := ⟨bm, 3, none⟩) hB _).setCell (p := ⟨bm, 4, none⟩) hB _).setCell (p := ⟨bm, 5, none⟩) hB _
end Go.Proofs.Ytinibccphecdfaa

/-! A STEP THAT IS UNDER WAY (package cpu's own struct): a processor's cells, and three more. -/
namespace Go.Proofs.Ytinibccphecdfaa
open Go.RowKit
set_option maxRecDepth 8000
set_option linter.unusedSimpArgs false
set_option linter.unusedVariables false

/-- A processor in a block of one's own, and more cells behind it. -/
structure XAt (b : Nat) (c : Cp) (v : Value) (r : List Value) (W : World) : Prop where
  ps : c.ps.length = 4
  blk : BlkL b (stCs c v ++ r) W
section
variable {b : Nat} {c c' : Cp} {v v' u : Value} {r : List Value} {W W' : World}
theorem XAt.cells (h : XAt b c v r W) {i : Nat} (hu : (stCs c v)[i]? = some u) : W.cell? ⟨b, i, none⟩ = some u ∧ W.frozen? ⟨b, i, none⟩ = false := by
  have hi := (List.getElem?_eq_some_iff.1 hu).1
  exact h.blk.1 i u (by rw [List.getElem?_append_left hi]; exact hu)
theorem XAt.tails (h : XAt b c v r W) {i : Nat} (hu : r[i]? = some u) : W.cell? ⟨b, 18 + i, none⟩ = some u ∧ W.frozen? ⟨b, 18 + i, none⟩ = false := by
  refine h.blk.1 (18 + i) u ?_
  rw [List.getElem?_append_right (by rw [st_len h.ps]; omega), st_len h.ps, show 18 + i - 18 = i by omega]
  exact hu
theorem XAt.seg (h : XAt b c v r W) : W.cell? ⟨b, 0, none⟩ = some (.int .i64 c.seg) := (h.cells (i := 0) rfl).1
theorem XAt.off (h : XAt b c v r W) : W.cell? ⟨b, 1, none⟩ = some (.int .i64 c.off) := (h.cells (i := 1) rfl).1
theorem XAt.ring (h : XAt b c v r W) : W.cell? ⟨b, 2, none⟩ = some (.int .i64 c.ring) := (h.cells (i := 2) rfl).1
theorem XAt.a (h : XAt b c v r W) : W.cell? ⟨b, 3, none⟩ = some (.int .i64 c.a) := (h.cells (i := 3) rfl).1
theorem XAt.stk (h : XAt b c v r W) : W.cell? ⟨b, 16, none⟩ = some v := (h.cells (i := 16) (st_stk h.ps)).1
theorem XAt.hl (h : XAt b c v r W) : W.cell? ⟨b, 17, none⟩ = some (.bool c.hl) := (h.cells (i := 17) (st_hl h.ps)).1
theorem XAt.free (h : XAt b c v r W) {i : Nat} (hi : i < 18) : W.frozen? ⟨b, i, none⟩ = false := (h.cells (i := i) (List.getElem?_eq_getElem (by rw [st_len h.ps]; exact hi))).2
theorem XAt.ptr (h : XAt b c v r W) {k : Nat} (hk : k < 4) : W.rangeAt b (4 + k * 3) (ptr3 (c.ps.getD k ⟨0, 0, 0⟩)) := fun j u hu => by
  have hj : j < 3 := (List.getElem?_eq_some_iff.1 hu).1
  exact (h.cells ((st_ptr h.ps hk hj).trans hu)).1
theorem XAt.st (h : XAt b c v r W) : W.rangeAt b 0 (stCs c v) := fun j u hu => by
  rw [Nat.zero_add]
  exact (h.cells hu).1
theorem XAt.lt (h : XAt b c v r W) : b < W.heap.size := h.blk.2
theorem XAt.same (h : XAt b c v r W) (hb : W'.heap[b]? = W.heap[b]?) (hs : W.heap.size ≤ W'.heap.size) : XAt b c v r W' := ⟨h.ps, h.blk.1.same hb, Nat.lt_of_lt_of_le h.blk.2 hs⟩
theorem XAt.keep (h : XAt b c v r W) (hb : Below W.heap.size W W') : XAt b c v r W' := ⟨h.ps, stab_blk _ _ _ _ h.blk hb⟩
theorem XAt.put (h : XAt b c v r W) {i : Nat} (hi : i < 18) (u : Value) (h4 : c'.ps.length = 4) (he : (stCs c v).set i u = stCs c' v') : XAt b c' v' r (W.setCell ⟨b, i, none⟩ u) := by
  have h1 := h.blk.1.set i u (by rw [List.length_append, st_len h.ps]; omega)
  rw [List.set_append_left _ _ (by rw [st_len h.ps]; exact hi), he] at h1
  exact ⟨h4, h1, h1.lt (List.getElem?_eq_getElem (by rw [List.length_append, st_len h4]; omega : 0 < (stCs c' v' ++ r).length))⟩
theorem XAt.putT (h : XAt b c v r W) {i : Nat} (hi : i < r.length) (u : Value) : XAt b c v (r.set i u) (W.setCell ⟨b, 18 + i, none⟩ u) := by
  have h1 := h.blk.1.set (18 + i) u (by rw [List.length_append, st_len h.ps]; omega)
  rw [List.set_append_right _ _ (by rw [st_len h.ps]; omega), st_len h.ps, show 18 + i - 18 = i by omega] at h1
  exact ⟨h.ps, h1, h1.lt (List.getElem?_eq_getElem (by rw [List.length_append, st_len h.ps]; omega : 0 < (stCs c v ++ r.set i u).length))⟩
theorem XAt.setSeg (h : XAt b c v r W) (x : Int) : XAt b { c with seg := x } v r (W.setCell ⟨b, 0, none⟩ (.int .i64 x)) := h.put (by omega) _ h.ps rfl
theorem XAt.setOff (h : XAt b c v r W) (x : Int) : XAt b { c with off := x } v r (W.setCell ⟨b, 1, none⟩ (.int .i64 x)) := h.put (by omega) _ h.ps rfl
theorem XAt.setRing (h : XAt b c v r W) (x : Int) : XAt b { c with ring := x } v r (W.setCell ⟨b, 2, none⟩ (.int .i64 x)) := h.put (by omega) _ h.ps rfl
theorem XAt.setA (h : XAt b c v r W) (x : Int) : XAt b { c with a := x } v r (W.setCell ⟨b, 3, none⟩ (.int .i64 x)) := h.put (by omega) _ h.ps rfl
theorem XAt.setStk (h : XAt b c v r W) (u : Value) : XAt b c u r (W.setCell ⟨b, 16, none⟩ u) := h.put (by omega) _ h.ps (st_setStk h.ps v u)
theorem st_setHl (h : c.ps.length = 4) (v : Value) (x : Bool) : (stCs c v).set 17 (.bool x) = stCs { c with hl := x } v := by
  obtain ⟨p0, p1, p2, p3, hl⟩ := four h
  obtain ⟨s, o, rg, a, ps, st, hl'⟩ := c
  simp only at hl
  subst hl
  rfl
theorem XAt.setHl (h : XAt b c v r W) (x : Bool) : XAt b { c with hl := x } v r (W.setCell ⟨b, 17, none⟩ (.bool x)) := h.put (by omega) _ h.ps (st_setHl h.ps v x)
theorem st_setPtr (h : c.ps.length = 4) (v : Value) {k : Nat} (hk : k < 4) (q : Ptr) : setM (stCs c v) (4 + k * 3) (ptr3 q) = stCs { c with ps := c.ps.set k q } v := by
  obtain ⟨p0, p1, p2, p3, hl⟩ := four h
  obtain ⟨s, o, rg, a, ps, st, hl'⟩ := c
  simp only at hl
  subst hl
  match k, hk with
  | 0, _ => rfl
  | 1, _ => rfl
  | 2, _ => rfl
  | 3, _ => rfl
theorem setM_append : ∀ (vs : List Value) (xs ys : List Value) (k : Nat), k + vs.length ≤ xs.length → setM (xs ++ ys) k vs = setM xs k vs ++ ys
  | [], _, _, _, _ => rfl
  | v :: t, xs, ys, k, h => by
    simp at h
    rw [setM, setM, List.set_append_left _ _ (by omega)]
    exact setM_append t _ ys (k + 1) (by simp; omega)
theorem XAt.setPtr (h : XAt b c v r W) {k : Nat} (hk : k < 4) (q : Ptr) : ∃ W', W.setCells b (4 + k * 3) (ptr3 q) = W' ∧ W.there b (4 + k * 3) (ptr3 q).length ∧ XAt b { c with ps := c.ps.set k q } v r W' ∧ (∀ B W0, B ≤ b → Below B W0 W → Below B W0 W') ∧ ∀ j, j ≠ b → W'.heap[j]? = W.heap[j]? := by
  have hl : 4 + k * 3 + (ptr3 q).length ≤ (stCs c v ++ r).length := by rw [List.length_append, st_len h.ps, ptr3_len]; omega
  have h1 := Blk.putM (ptr3 q) (4 + k * 3) h.blk.1 hl
  rw [setM_append _ _ _ _ (by rw [st_len h.ps, ptr3_len]; omega), st_setPtr h.ps v hk q] at h1
  have h4 : ({ c with ps := c.ps.set k q } : Cp).ps.length = 4 := by show (c.ps.set k q).length = 4; rw [List.length_set]; exact h.ps
  refine ⟨_, rfl, h.blk.1.thereM _ _ hl, ⟨h4, h1, h1.lt (List.getElem?_eq_getElem (by rw [List.length_append, st_len h4]; omega : 0 < (stCs { c with ps := c.ps.set k q } v ++ r).length))⟩, fun B W0 hB hb => Below.cells hB _ _ hb, fun j hj => heap_setCells_other hj _ _ _⟩
end
/-- Of what was there the block bx alone may be turned. -/
structure Sole (bx : Nat) (w w' : World) : Prop where
  os : w'.os = w.os
  tape : w'.tape = w.tape
  output : w'.output = w.output
  size : w.heap.size ≤ w'.heap.size
  block : ∀ j, j < w.heap.size → j ≠ bx → w'.heap[j]? = w.heap[j]?
theorem Sole.of {bx : Nat} {w w' : World} (h : Below w.heap.size w w') : Sole bx w w' := ⟨h.os, h.tape, h.output, h.size, fun j hj _ => h.block j hj⟩
theorem Sole.trans {bx : Nat} {w w1 w2 : World} (h : Sole bx w w1) (k : Sole bx w1 w2) : Sole bx w w2 := ⟨k.os.trans h.os, k.tape.trans h.tape, k.output.trans h.output, Nat.le_trans h.size k.size, fun j hj hn => (k.block j (Nat.lt_of_lt_of_le hj h.size) hn).trans (h.block j hj hn)⟩
theorem Sole.set {bx : Nat} {w w' : World} (h : Sole bx w w') (o : Nat) (u : Value) : Sole bx w (w'.setCell ⟨bx, o, none⟩ u) := ⟨h.os, h.tape, h.output, by simpa using h.size, fun j hj hn => (heap_setCell_other _ ⟨bx, o, none⟩ j _ hn).trans (h.block j hj hn)⟩
theorem Sole.cells {bx b : Nat} {w w' : World} (h : Sole bx w w') (hb : b = bx ∨ w.heap.size ≤ b) (o : Nat) (us : List Value) : Sole bx w (w'.setCells b o us) := by
  have k := Below.cells (B := 0) (b := b) (Nat.zero_le _) us o (Below.refl 0 w')
  exact ⟨k.os.trans h.os, k.tape.trans h.tape, k.output.trans h.output, Nat.le_trans h.size k.size, fun j hj hn => (heap_setCells_other (by omega) us o w').trans (h.block j hj hn)⟩
theorem Sole.blk {bx b : Nat} {cs : List Value} {w w' : World} (h : Sole bx w w') (hb : BlkL b cs w) (hn : b ≠ bx) : BlkL b cs w' := ⟨hb.1.same (h.block b hb.2 hn), Nat.lt_of_lt_of_le hb.2 h.size⟩
theorem Sole.below {bx L : Nat} {w0 w w' : World} (h : Sole bx w w') (hb : Below L w0 w) (hL : L ≤ bx) (hs : L ≤ w.heap.size) : Below L w0 w' := hb.trans ⟨h.os, h.tape, h.output, h.size, fun j hj => h.block j (Nat.lt_of_lt_of_le hj hs) (by omega)⟩
theorem Sole.own {α : Type} {e : TypeId} {sz : Nat} {f : α → List Value} {bx base : Nat} {w w' : World} {v : Value} {l : List α} (h : Sole bx w w') (ho : OwnR e sz f w base v l) (hn : v.ownBlock ≠ some bx) : OwnR e sz f w' base v l := ho.keep fun k hk => h.block k (ho.lt hk).2 (fun q => hn (by rw [hk, q]))
/-- What is panicked: a fault's number. -/
def thr (e : Int) : List PanicEntry := [{ v := .iface 112 (.int .i64 e), recovered := false }]
theorem diedC {P : Program} {fn : Func} {R : Ending → World → Prop} {a : Act} {w : World} {ch : List PanicEntry} (h : R (.panicked ch) w) (ha : a.defers = [] := by rfl) : bodyPost P fn R (.panic ch) a w := ⟨ha, h⟩
end Go.Proofs.Ytinibccphecdfaa

/-! PACKAGE cpu AS IT LANDED: faults, segments told, words read. -/
namespace Go.Proofs.Ytinibccphecdfaa
open Go.RowKit
set_option maxRecDepth 8000
set_option linter.unusedSimpArgs false
set_option linter.unusedVariables false

theorem need_ok (e : Int) (w : World) : Calls Try.prog 64 #[.bool true, .int .i64 e] w fun r w' => r = .returned (.tuple #[]) ∧ w' = w := by
  go_enter Try.func64, Try.ntmps64
  go_wp2_with fail
  refine bodyPost_end (v := .tuple #[]) (by simp [results, Try.results64, go_sem]) rfl ?_
  exact ⟨rfl, rfl⟩
theorem need_no (e : Int) (w : World) : Calls Try.prog 64 #[.bool false, .int .i64 e] w fun r w' => r = .panicked (thr e) ∧ w' = w := by
  go_enter Try.func64, Try.ntmps64
  go_wp2_with fail
  exact diedC ⟨rfl, rfl⟩
theorem allows_any (g : Sg) (v : Value) (b : Int) (w : World) : Calls Try.prog 65 #[.agg (sg6 g v).toArray, .int .i64 b] w fun e w' => e = .returned (.bool (hasM g.md b)) ∧ Below w.heap.size w w' := by
  have hB := alloc_below w (.cells (sg6 g v).toArray 60)
  have h0 := blkl_alloc w (sg6 g v).toArray 60
  have x1 := (h0.1 1 _ rfl).1
  obtain ⟨X, hX⟩ : ∃ X, (sg6 g v).toArray = X := ⟨_, rfl⟩
  rw [hX] at hB x1 ⊢
  unfold hasM
  go_enter Try.func65, Try.ntmps65
  go_wp2_with fail
  go_ret
  exact ⟨rfl, hB⟩
end Go.Proofs.Ytinibccphecdfaa

/-! PACKAGE cpu AS IT LANDED: segments told, words read. -/
namespace Go.Proofs.Ytinibccphecdfaa
open Go.RowKit
set_option maxRecDepth 8000
set_option linter.unusedSimpArgs false
set_option linter.unusedVariables false

set_option maxHeartbeats 1000000 in
theorem has_any (g : Sg) (a : Option Addr) (cap : Nat) (o : Int) (w : World) : Calls Try.prog 78 #[.agg (sg6 g (.slice a g.ws.length cap)).toArray, .int .i64 o] w fun e w' => e = .returned (.bool (decide (inG g o))) ∧ Below w.heap.size w w' := by
  have hB := alloc_below w (.cells (sg6 g (.slice a g.ws.length cap)).toArray 60)
  have h0 := blkl_alloc w (sg6 g (.slice a g.ws.length cap)).toArray 60
  have x0 := (h0.1 0 _ rfl).1
  obtain ⟨X, hX⟩ : ∃ X, (sg6 g (.slice a g.ws.length cap)).toArray = X := ⟨_, rfl⟩
  rw [hX] at hB x0 ⊢
  unfold inG
  generalize g.ws.length = ln at *
  by_cases c0 : 0 ≤ o
  · by_cases c1 : o < (ln : Int)
    · rw [show decide (0 ≤ o ∧ o < (ln : Int)) = true by simp [c0, c1]]
      go_enter Try.func78, Try.ntmps78
      go_wp2_with fail
      go_ret
      exact ⟨rfl, hB⟩
    · rw [show decide (0 ≤ o ∧ o < (ln : Int)) = false by simp [c1]]
      have c2 : (ln : Int) ≤ o := by omega
      go_enter Try.func78, Try.ntmps78
      go_wp2_with fail
      go_ret
      exact ⟨rfl, hB⟩
  · rw [show decide (0 ≤ o ∧ o < (ln : Int)) = false by simp [c0]]
    go_enter Try.func78, Try.ntmps78
    go_wp2_with fail
    go_ret
    exact ⟨rfl, hB⟩
set_option maxHeartbeats 1000000 in
theorem cword_no (g : Sg) (a : Option Addr) (cap : Nat) (o : Int) (w : World) (hn : ¬ inG g o) : Calls Try.prog 68 #[.agg (sg6 g (.slice a g.ws.length cap)).toArray, .int .i64 o] w fun e w' => e = .panicked (thr 35) ∧ Below w.heap.size w w' := by
  have hund := Try.underlying60
  have hsz : (Try.prog.info? 60).map (·.size) = some 6 := by kernel_rfl
  have hB := alloc_below w (.cells (sg6 g (.slice a g.ws.length cap)).toArray 60)
  have h0 := blkl_alloc w (sg6 g (.slice a g.ws.length cap)).toArray 60
  have k1 := fun W => has_any g a cap o W
  rw [decide_eq_false hn] at k1
  have hr := h0.range
  obtain ⟨X, hX⟩ : ∃ X, sg6 g (.slice a g.ws.length cap) = X := ⟨_, rfl⟩
  have hl : X.length = 6 := by rw [← hX]; rfl
  simp only [hX] at hB hr k1 ⊢
  have hszX : (Try.prog.info? 60).map (·.size) = some X.length := by rw [hl]; exact hsz
  clear hX h0 hl hn
  go_enter Try.func68, Try.ntmps68
  go_wp2_with (first | (refine wpList_load_row rfl _ rfl w.heap.size rfl X hr hund rfl hszX ?_) | fail)
  refine (k1 _).mono ?_
  rintro e W1 ⟨rfl, hb⟩
  have hB1 := Below.then hB hb
  go_wp2_with fail
  refine (need_no 35 W1).mono ?_
  rintro e W2 ⟨rfl, rfl⟩
  go_wp2_with fail
  exact diedC ⟨rfl, hB1⟩
set_option maxHeartbeats 1000000 in
theorem cword_ok (g : Sg) (a : Option Addr) (cap : Nat) (o : Int) (w : World) (hi : inG g o) (hrow : RowAt 1 wcl w a g.ws) : Calls Try.prog 68 #[.agg (sg6 g (.slice a g.ws.length cap)).toArray, .int .i64 o] w fun e w' => e = .returned (.int .i64 (wAt g o)) ∧ Below w.heap.size w w' := by
  have hund := Try.underlying60
  have hsz : (Try.prog.info? 60).map (·.size) = some 6 := by kernel_rfl
  have hB := alloc_below w (.cells (sg6 g (.slice a g.ws.length cap)).toArray 60)
  have h0 := blkl_alloc w (sg6 g (.slice a g.ws.length cap)).toArray 60
  have k1 := fun W => has_any g a cap o W
  rw [decide_eq_true hi] at k1
  obtain ⟨j, rfl, hj⟩ : ∃ j : Nat, o = (j : Int) ∧ j < g.ws.length := ⟨o.toNat, by have := hi.1; omega, by have := hi.1; have := hi.2; omega⟩
  obtain ⟨y, rfl, hc⟩ := hrow j (g.ws[j]) (List.getElem?_eq_getElem hj)
  have hc0 : w.cell? (y.add j) = some (.int .i64 (wAt g (j : Int))) := by
    have := hc 0 (by decide)
    rw [Nat.mul_one, Nat.add_zero] at this
    rw [this]
    unfold wAt
    rw [Int.toNat_natCast, List.getD_eq_getElem?_getD, List.getElem?_eq_getElem hj]
    rfl
  have hr := h0.range
  have x0 := (h0.1 0 _ rfl).1
  obtain ⟨X, hX⟩ : ∃ X, sg6 g (.slice (some y) g.ws.length cap) = X := ⟨_, rfl⟩
  have hl : X.length = 6 := by rw [← hX]; rfl
  have h6 := h0
  simp only [hX] at hB hr k1 h6 ⊢
  have hszX : (Try.prog.info? 60).map (·.size) = some X.length := by rw [hl]; exact hsz
  have i1 : (j : Int) < (g.ws.length : Int) := by omega
  have i2 : ¬ (j : Int) < 0 := by omega
  have i3 : ¬ (g.ws.length : Int) ≤ (j : Int) := by omega
  have hX0 : X[0]? = some (.slice (some y) g.ws.length cap) := by rw [← hX]; rfl
  clear hX h0 hl hi hrow hc x0
  generalize wAt g (j : Int) = wd at *
  generalize g.ws.length = ln at *
  go_enter Try.func68, Try.ntmps68
  go_wp2_with (first | (refine wpList_load_row rfl _ rfl w.heap.size rfl X hr hund rfl hszX ?_) | fail)
  refine (k1 _).mono ?_
  rintro e W1 ⟨rfl, hb⟩
  have hB1 := Below.then hB hb
  have h61 := stab_blk _ _ _ _ h6 hb
  have x0 := (h61.1 0 _ hX0).1
  have hc1 : W1.cell? (y.add j) = some (.int .i64 wd) := (hB1.cell (World.block_lt_of_cell? _ _ hc0)).trans hc0
  clear hc0 h6 h61 hr hb hX0
  go_wp2_with fail
  refine (need_ok 35 W1).mono ?_
  rintro e W2 ⟨rfl, rfl⟩
  go_wp2_with fail
  go_ret
  exact ⟨rfl, hB1⟩
/-- What is asked of a memory's segments. -/
structure MG (m : List PG) : Prop where
  len : m.length < 1000000
  ok : ∀ x ∈ m, x.g.Ok
  cap : ∀ x ∈ m, x.wa = none → x.wc = 0
/-- A memory, as an interface's value. -/
abbrev memI (bm : Nat) : Value := .iface 43 (.pointer (some ⟨bm, 0, none⟩))
theorem finds_seg (p : Addr) (w : World) : Sem.run Try.prog (method 257 43 (.pointer (some p)) "Segment") w = .ok (19, .pointer (some p)) w := by rfl
theorem enters_seg (args : Array Value) (w : World) : Sem.run Try.prog (callFunc 19 args) w = .ok (.enter 19 args) w := by rfl
theorem sg6_one (g : Sg) (a : Option Addr) (n cap : Nat) : ∀ u ∈ sg6 g (.slice a n cap), u.oneCell' = true := fun u hu => by
  simp [sg6] at hu
  rcases hu with rfl | rfl | rfl | rfl | rfl | rfl <;> rfl
/-- A segment that was told, in a new block. -/
theorem new_sg (W : World) (g : Sg) (v : Value) : ∃ W', (W.alloc (.cells #[.slice none 0 0, .int .i64 0, .int .i64 0, .int .i64 0, .int .i64 0, .int .i64 0] 60)).setCells W.heap.size 0 (sg6 g v) = W' ∧ (W.alloc (.cells #[.slice none 0 0, .int .i64 0, .int .i64 0, .int .i64 0, .int .i64 0, .int .i64 0] 60)).there W.heap.size 0 (sg6 g v).length ∧ BlkL W.heap.size (sg6 g v) W' ∧ Below W.heap.size W W' :=
  put_new W (sg6 zeroG nilS).toArray 60 (sg6 g v) rfl (by show 0 < 6; decide)
set_option maxHeartbeats 2000000 in
theorem cseg_none (bm bx : Nat) (a : Option Addr) (cap : Nat) (m : List PG) (hm : MG m) (c : Cp) (v : Value) (r : List Value) (k : Int) (w : World) (hM : MAt bm a cap m w) (hX : XAt bx c v (memI bm :: r) w) (hno : (kn (m.map (·.g)) k).is = false) :
    Calls Try.prog 63 #[.pointer (some ⟨bx, 0, none⟩), .int .i64 k] w fun e w' => e = .panicked (thr 35) ∧ Below w.heap.size w w' := by
  have hszC : (Try.prog.info? 60).map (·.size) = some 6 := by kernel_rfl
  have hB0 := alloc_below w (.cells (sg6 zeroG nilS).toArray 60)
  have hM1 := hM.below hB0
  have hX1 := hX.keep hB0
  have x0 := (hX1.tails (i := 0) rfl).1
  have hf := finds_seg ⟨bm, 0, none⟩
  have he := enters_seg
  have hlen := hm.len
  clear hM hX hX1 hm
  go_enter Try.func63, Try.ntmps63
  go_upto_region 1 with fail
  replace x0 : (w.alloc (.cells #[.slice none 0 0, .int .i64 0, .int .i64 0, .int .i64 0, .int .i64 0, .int .i64 0] 60)).cell? ⟨bx, 18, none⟩ = some (memI bm) := x0
  replace hM1 : MAt bm a cap m (w.alloc (.cells #[.slice none 0 0, .int .i64 0, .int .i64 0, .int .i64 0, .int .i64 0, .int .i64 0] 60)) := hM1
  replace hB0 : Below w.heap.size w (w.alloc (.cells #[.slice none 0 0, .int .i64 0, .int .i64 0, .int .i64 0, .int .i64 0, .int .i64 0] 60)) := hB0
  generalize w.alloc (.cells #[.slice none 0 0, .int .i64 0, .int .i64 0, .int .i64 0, .int .i64 0, .int .i64 0] 60) = W0 at *
  go_wp2_with fail
  refine (mseg_none bm a cap m k hlen W0 hM1 hno).mono ?_
  rintro e W1 ⟨rfl, hb⟩
  obtain ⟨W2, hW2, hth2, hb2, hB2⟩ := new_sg W1 zeroG nilS
  have hB := Below.then (Below.then hB0 hb) hB2
  clear hM1 hno x0 hf he hb hB0 hB2 hb2
  go_wp2_with (first | (refine wpList_store_row rfl _ _ rfl W1.heap.size rfl (sg6 zeroG nilS) rfl hth2 hszC (sg6_one _ _ _ _) hW2 ?_) | fail)
  refine (need_no 35 W2).mono ?_
  rintro e W3 ⟨rfl, rfl⟩
  go_wp2_with fail
  exact diedC ⟨rfl, hB⟩
set_option maxHeartbeats 2000000 in
theorem cseg_some (bm bx : Nat) (a : Option Addr) (cap : Nat) (m : List PG) (hm : MG m) (c : Cp) (v : Value) (r : List Value) (k : Int) (w : World) (hM : MAt bm a cap m w) (hX : XAt bx c v (memI bm :: r) w) (hyes : (kn (m.map (·.g)) k).is = true) :
    Calls Try.prog 63 #[.pointer (some ⟨bx, 0, none⟩), .int .i64 k] w fun e w' => ∃ u, e = .returned (.agg (sg6 (kn (m.map (·.g)) k) u).toArray) ∧ OwnR 2 1 wcl w' w.heap.size u (kn (m.map (·.g)) k).ws ∧ Below w.heap.size w w' := by
  have hundC := Try.underlying60
  have hszC : (Try.prog.info? 60).map (·.size) = some 6 := by kernel_rfl
  have hB0 := alloc_below w (.cells (sg6 zeroG nilS).toArray 60)
  have h0 := blkl_alloc w (sg6 zeroG nilS).toArray 60
  have hM1 := hM.below hB0
  have hX1 := hX.keep hB0
  have x0 := (hX1.tails (i := 0) rfl).1
  have hf := finds_seg ⟨bm, 0, none⟩
  have he := enters_seg
  have hs0 : w.heap.size ≤ (w.alloc (.cells #[.slice none 0 0, .int .i64 0, .int .i64 0, .int .i64 0, .int .i64 0, .int .i64 0] 60)).heap.size := hB0.size
  have k1 := fun (W : World) (h : MAt bm a cap m W) => mseg_some bm a cap m k hm.len hm.ok hm.cap W h hyes
  clear hM hX hX1 hyes hm
  generalize kn (m.map (·.g)) k = g at *
  go_enter Try.func63, Try.ntmps63
  go_upto_region 1 with fail
  replace x0 : (w.alloc (.cells #[.slice none 0 0, .int .i64 0, .int .i64 0, .int .i64 0, .int .i64 0, .int .i64 0] 60)).cell? ⟨bx, 18, none⟩ = some (memI bm) := x0
  replace hM1 : MAt bm a cap m (w.alloc (.cells #[.slice none 0 0, .int .i64 0, .int .i64 0, .int .i64 0, .int .i64 0, .int .i64 0] 60)) := hM1
  replace hB0 : Below w.heap.size w (w.alloc (.cells #[.slice none 0 0, .int .i64 0, .int .i64 0, .int .i64 0, .int .i64 0, .int .i64 0] 60)) := hB0
  replace h0 : BlkL w.heap.size (sg6 zeroG nilS) (w.alloc (.cells #[.slice none 0 0, .int .i64 0, .int .i64 0, .int .i64 0, .int .i64 0, .int .i64 0] 60)) := h0
  generalize w.alloc (.cells #[.slice none 0 0, .int .i64 0, .int .i64 0, .int .i64 0, .int .i64 0, .int .i64 0] 60) = W0 at *
  go_wp2_with fail
  refine (k1 W0 hM1).mono ?_
  rintro e W1 ⟨u, rfl, ho, hb⟩
  obtain ⟨ua, uc, hu, -, -, -⟩ := ho.slice wd_okC.len
  obtain ⟨W2, hW2, hth2, hb2, hB2⟩ := new_sg W1 g u
  have h1 := stab_blk _ _ _ _ (stab_blk _ _ _ _ h0 hb) hB2
  have hr2 := hb2.range
  obtain ⟨W3, hW3, hth3, hb3, hk3⟩ := put_any h1 (ds := sg6 g u) rfl (by show 0 < 6; decide)
  have hB3 := hk3 _ _ (Nat.le_refl _) (Below.then (Below.then hB0 hb) hB2)
  have ho3 : OwnR 2 1 wcl W3 w.heap.size u g.ws := by
    rw [← hW3]
    have := h0.2
    exact (((ho.below hB2).setAll (g := w.heap.size) (fun q => by have := (ho.lt q).1; omega) _)).lower hs0
  have hr3 := hb3.range
  have hone : ∀ z ∈ sg6 g u, z.oneCell' = true := by rw [hu]; exact sg6_one _ _ _ _
  obtain ⟨X, hX⟩ : ∃ X, sg6 g u = X := ⟨_, rfl⟩
  have hl : X.length = 6 := by rw [← hX]; rfl
  have hszX : (Try.prog.info? 60).map (·.size) = some X.length := by rw [hl]; exact hszC
  rw [hX] at hW2 hth2 hW3 hth3 hr2 hr3 hone
  have hXv : Aside (.agg (sg6 g u).toArray = Value.agg X.toArray) := by rw [hX]; exact rfl
  replace hX : Aside (sg6 g u = X) := hX
  clear hM1 k1 x0 hf he hb hB0 hB2 hb2 h0 h1 hb3 hk3 hl ho hu
  go_wp2_with (first | (refine wpList_store_row rfl _ _ rfl W1.heap.size rfl X hXv.out hth2 hszX hone hW2 ?_) | fail)
  refine (need_ok 35 W2).mono ?_
  rintro e W4 ⟨rfl, rfl⟩
  go_wp2_with (first | (refine wpList_load_row rfl _ rfl W1.heap.size rfl X hr2 hundC rfl hszX ?_) | (refine wpList_store_row rfl _ _ rfl w.heap.size rfl X rfl hth3 hszX hone hW3 ?_) | fail)
  refine bodyPost_ret (v := .agg X.toArray) (results_row1 rfl _ _ w.heap.size rfl X hr3 hundC rfl hszX) rfl ?_
  exact ⟨u, by rw [hX.out], ho3, hB3⟩
end Go.Proofs.Ytinibccphecdfaa

/-! PACKAGE cpu AS IT LANDED: where mem is; read. Written by mk_cpufnc.py. -/
namespace Go.Proofs.Ytinibccphecdfaa
open Go.RowKit
set_option maxRecDepth 8000
set_option linter.unusedSimpArgs false
set_option linter.unusedVariables false

section
variable {ops : Array Oper} {o : Oper} {a : Act} {w : World} {Q : Exit → Act → World → Prop}
theorem step_allocC {T : TypeId} {K : Act → World → Prop} {E : Prop} {z : Array Value} (hg : o.guard = none) (ho : o.op = .alloc T) (hz : ∀ w : World, (Instr.alloc T true (.tuple #[])).run Try.prog w = .ok (.pointer (some ⟨w.heap.size, 0, none⟩)) (w.alloc (.cells z T))) (hK : K (a.put o.dst (.pointer (some ⟨w.heap.size, 0, none⟩))) (w.alloc (.cells z T))) :
    if Region.wanted o (yielded ops a.tmps) = true then Oper.wp Try.prog o a w K Q else E := by
  have hw : Region.wanted o (yielded ops a.tmps) = true := by simp [Region.wanted, hg]
  rw [if_pos hw]
  unfold Oper.wp
  simp [execOp, ho, hz, Result.andThen]
  exact hK
end
def memP (c : Cp) (i : Ins) : Ptr := ⟨(pAt c i.p).s, mOff c i, mRing c i⟩
/-- What mem's second region keeps. -/
structure SM (bx bi bp : Nat) (c : Cp) (v : Value) (r : List Value) (i : Ins) (p : Ptr) (W : World) : Prop where
  x : XAt bx c v r W
  i : BlkL bi (ins3 i) W
  p : BlkL bp (ptr3 p) W
set_option maxRecDepth 8000 in
set_option maxHeartbeats 4000000 in
theorem cmem_any (bx : Nat) (c : Cp) (v : Value) (r : List Value) (hc : c.Ok) (i : Ins) (hi : insE i = 0) (w : World) (hX : XAt bx c v r w) :
    Calls Try.prog 52 #[.pointer (some ⟨bx, 0, none⟩), i.v] w fun e w' => e = .returned (.agg (ptr3 (memP c i)).toArray) ∧ Below w.heap.size w w' := by
  have hundP := Try.underlying24
  have hszP : (Try.prog.info? 24).map (·.size) = some 3 := by kernel_rfl
  obtain ⟨⟨o0, o1⟩, p0, p1, n0, n1⟩ := insE_zero.1 hi
  obtain ⟨k, hk, hk4⟩ : ∃ k : Nat, i.p = (k : Int) ∧ k < 4 := ⟨i.p.toNat, by omega, by omega⟩
  have hpo := pAt_ok hc i.p
  have hp : pAt c i.p = c.ps.getD k ⟨0, 0, 0⟩ := by unfold pAt; rw [hk, Int.toNat_natCast]
  obtain ⟨p, hpp⟩ : ∃ p, c.ps.getD k ⟨0, 0, 0⟩ = p := ⟨_, rfl⟩
  rw [hpp] at hp
  rw [hp] at hpo
  have how : IntKind.i64.wrap (p.f + i.n) = mOff c i := by rw [IntKind.wrap_i64]; unfold mOff; rw [hp]; omega
  have hgm : (if c.ring < p.r then p.r else c.ring) = mRing c i := by unfold mRing; rw [hp]; rfl
  have hmp : memP c i = ⟨p.s, mOff c i, mRing c i⟩ := by unfold memP; rw [hp]
  rw [hmp]
  have hv : i.v = .agg #[.int .i64 i.o, .int .i64 (k : Int), .int .i64 i.n] := by rw [← hk]
  rw [hv]
  generalize mOff c i = o at *
  generalize mRing c i = R at *
  have hi0 := blkl_alloc w (ins3 ⟨i.o, (k : Int), i.n⟩).toArray 64
  have hB0 := alloc_below w (.cells (ins3 ⟨i.o, (k : Int), i.n⟩).toArray 64)
  have hsw : (w.alloc (.cells (ins3 ⟨i.o, (k : Int), i.n⟩).toArray 64)).heap.size = w.heap.size + 1 := by simp
  have hr0 := blkl_alloc (w.alloc (.cells (ins3 ⟨i.o, (k : Int), i.n⟩).toArray 64)) (ptr3 ⟨0, 0, 0⟩).toArray 24
  have hb := alloc_below (w.alloc (.cells (ins3 ⟨i.o, (k : Int), i.n⟩).toArray 64)) (.cells (ptr3 ⟨0, 0, 0⟩).toArray 24)
  rw [hsw] at hr0
  have hX1 := (hX.keep hB0).keep hb
  have hi1 := stab_blk _ _ _ _ hi0 hb
  have hB1 := Below.then hB0 hb
  have hbx : bx < w.heap.size := hX.lt
  replace hi1 : BlkL w.heap.size (ins3 ⟨i.o, (k : Int), i.n⟩) ((w.alloc (.cells #[.int .i64 i.o, .int .i64 (k : Int), .int .i64 i.n] 64)).alloc (.cells #[.int .i64 0, .int .i64 0, .int .i64 0] 24)) := hi1
  replace hr0 : BlkL (w.heap.size + 1) (ptr3 ⟨0, 0, 0⟩) ((w.alloc (.cells #[.int .i64 i.o, .int .i64 (k : Int), .int .i64 i.n] 64)).alloc (.cells #[.int .i64 0, .int .i64 0, .int .i64 0] 24)) := hr0
  replace hX1 : XAt bx c v r ((w.alloc (.cells #[.int .i64 i.o, .int .i64 (k : Int), .int .i64 i.n] 64)).alloc (.cells #[.int .i64 0, .int .i64 0, .int .i64 0] 24)) := hX1
  replace hB1 : Below w.heap.size w ((w.alloc (.cells #[.int .i64 i.o, .int .i64 (k : Int), .int .i64 i.n] 64)).alloc (.cells #[.int .i64 0, .int .i64 0, .int .i64 0] 24)) := hB1
  clear hi0 hB0 hsw hb hX hmp hv hi hpo o0 o1 p0 p1 n0 n1 hc hk hp
  have j1 : (k : Int) < 4 := by omega
  have j2 : ¬ (k : Int) < 0 := by omega
  go_enter Try.func52, Try.ntmps52
  go_upto_region 1 with fail
  generalize (w.alloc (.cells #[.int .i64 i.o, .int .i64 (k : Int), .int .i64 i.n] 64)).alloc (.cells #[.int .i64 0, .int .i64 0, .int .i64 0] 24) = Z at *
  have q1 := (hi1.1 1 _ rfl).1
  have hpt := hX1.ptr hk4
  rw [hpp] at hpt
  have hb1 := hi1.2
  have hb2 := hX1.lt
  have hS0 := (Below.refl Z.heap.size Z).drew
  refine wp_region_held_drew (S := (fun W => Below Z.heap.size Z W)) (by kernel_rfl) (by exact hS0) ?_
  intro hHeld
  generalize Z.drew = w0 at *
  obtain ⟨W2, hW2, hth2, hp2, hb22⟩ := put_new w0 (ptr3 ⟨0, 0, 0⟩).toArray 24 (ptr3 p) rfl (by show 0 < 3; decide)
  have hS1 := Below.then hS0 (alloc_below w0 (.cells (ptr3 ⟨0, 0, 0⟩).toArray 24))
  have hS2 := Below.then hS0 hb22
  refine wpAnyH_take (i := 0) (v := ?_) (by simp only [gA, gB, gC]; rfl) (by kernel_rfl) (by kernel_rfl) (by kernel_rfl) (by exact fun _ _ _ h => h) (Or.inl ⟨by rfl, ?_⟩) (by assumption) ?_; rotate_left; (focus (intro w hSw; (try dsimp only at hSw); go_simp; try with_reducible rfl)); (try simp only [Act.put, sA, sB, sC])
  refine wpAnyH_take (i := 1) (v := ?_) (by simp only [gA, gB, gC]; rfl) (by kernel_rfl) (by kernel_rfl) (by kernel_rfl) (by exact fun _ _ _ h => h) (Or.inl ⟨by rfl, ?_⟩) (by assumption) ?_; rotate_left; (focus (intro w hSw; (try dsimp only at hSw); go_simp; try with_reducible rfl)); (try simp only [Act.put, sA, sB, sC])
  refine wpAnyH_take (i := 2) (v := _) (by simp only [gA, gB, gC]; rfl) (by kernel_rfl) (by kernel_rfl) (by kernel_rfl) (by exact fun _ _ _ h => h) (yields_cellI (by rfl) _ rfl ⟨w.heap.size, 1, none⟩ rfl (.int .i64 (k : Int)) (fun _ q => (q.cell (p := ⟨w.heap.size, 1, none⟩) hb1).trans q1) intI_load) (by assumption) ?_; (try simp only [Act.put, sA, sB, sC])
  refine wpAnyH_take (i := 3) (v := ?_) (by simp only [gA, gB, gC]; rfl) (by kernel_rfl) (by kernel_rfl) (by kernel_rfl) (by exact fun _ _ _ h => h) (Or.inl ⟨by rfl, ?_⟩) (by assumption) ?_; rotate_left; (focus (intro w hSw; (try dsimp only at hSw); go_simp; try with_reducible rfl)); (try simp only [Act.put, sA, sB, sC])
  refine wpAnyH_take (i := 4) (v := ?_) (by simp only [gA, gB, gC]; rfl) (by kernel_rfl) (by kernel_rfl) (by kernel_rfl) (by exact fun _ _ _ h => h) (Or.inl ⟨by rfl, ?_⟩) (by assumption) ?_; rotate_left; (focus (intro w hSw; (try dsimp only at hSw); go_simp; try with_reducible rfl)); (try simp only [Act.put, sA, sB, sC])
  refine wpAnyH_take (i := 5) (v := ?_) (by simp only [gA, gB, gC]; rfl) (by kernel_rfl) (by kernel_rfl) (by kernel_rfl) (by exact fun _ _ _ h => h) (Or.inl ⟨by rfl, ?_⟩) (by assumption) ?_; rotate_left; (focus (intro w hSw; (try dsimp only at hSw); go_simp; try with_reducible rfl)); (try simp only [Act.put, sA, sB, sC])
  refine wpAnyH_take (i := 6) (v := ?_) (by simp only [gA, gB, gC]; rfl) (by kernel_rfl) (by kernel_rfl) (by kernel_rfl) (by exact fun _ _ _ h => h) (Or.inl ⟨by rfl, ?_⟩) (by assumption) ?_; rotate_left; (focus (intro w hSw; (try dsimp only at hSw); go_simp; try with_reducible rfl)); (try simp only [Act.put, sA, sB, sC])
  refine wpAnyH_take (i := 7) (v := _) (by simp only [gA, gB, gC]; rfl) (by kernel_rfl) (by kernel_rfl) (by kernel_rfl) (by exact fun _ _ _ h => h) (yieldsIf_load_mid (by rfl) 24 _ rfl bx (4 + k * 3) rfl (ptr3 p) _ (fun _ q j u hu => (q.cell (p := ⟨bx, 4 + k * 3 + j, none⟩) hb2).trans (hpt j u hu)) hundP rfl hszP) (by assumption) ?_; (try simp only [Act.put, sA, sB, sC])
  refine wpAnyH_ready (rs := [8]) (by kernel_rfl) (by simp) ?_
  refine AllReadyH.cons (by simp only [gA, gB, gC]; rfl) (fun K hK => ?_) AllReadyH.nil
  refine step_allocC (z := #[.int .i64 0, .int .i64 0, .int .i64 0]) rfl rfl (fun _ => rfl) ?_
  (try simp only [Act.put, sA, sB, sC])
  refine hK.out _ _ (hS1) ?_
  clear hHeld hK
  intro hHeld
  (try simp only [Act.put, sA, sB, sC])
  refine wpAnyH_ready (rs := [9]) (by kernel_rfl) (by simp) ?_
  refine AllReadyH.cons (by simp only [gA, gB, gC]; rfl) (fun K hK => ?_) AllReadyH.nil
  refine step_store_rowC rfl _ _ rfl w0.heap.size rfl (ptr3 p) rfl hth2 hszP (ptr3J_one _) hW2 ?_
  (try simp only [Act.put, sA, sB, sC])
  refine hK.out _ _ (hS2) ?_
  clear hHeld hK
  intro hHeld
  (try simp only [Act.put, sA, sB, sC])
  refine wpAnyH_done (by kernel_rfl) ?_ _
  have hX2 := hX1.keep hS2
  have hi2 := stab_blk _ _ _ _ hi1 hS2
  have hr2 := stab_blk _ _ _ _ hr0 hS2
  have hB2 := Below.then hB1 hS2
  have hz0 := hS0.size
  have hr02 := hr0.2
  have hdr := (Below.refl W2.heap.size W2).drew
  have hX3 := hX2.keep hdr
  have hi3 := stab_blk _ _ _ _ hi2 hdr
  have hp3 := stab_blk _ _ _ _ hp2 hdr
  have hr3 := stab_blk _ _ _ _ hr2 hdr
  have hB3 := Below.then hB2 hdr
  obtain ⟨W7, hW7, hth7, hb7, hk7⟩ := put_any hr3 (ds := ptr3 ⟨p.s, o, R⟩) rfl (by show 0 < 3; decide)
  have hB7 := hk7 _ _ (Nat.le_succ _) hB3
  have hfar : ∀ q, q ≠ w.heap.size + 1 → W7.heap[q]? = W2.drew.heap[q]? := fun q hq => by rw [← hW7]; exact heap_setCells_other hq _ _ _
  have hM7 : SM bx w.heap.size w0.heap.size c v r ⟨i.o, (k : Int), i.n⟩ p W7 := by
    have hs7 : W2.drew.heap.size ≤ W7.heap.size := (hk7 0 W2.drew (Nat.zero_le _) (Below.refl _ _)).size
    exact ⟨hX3.same (hfar _ (by omega)) hs7, ⟨hi3.1.same (hfar _ (by omega)), Nat.lt_of_lt_of_le hi3.2 hs7⟩, ⟨hp3.1.same (hfar _ (by omega)), Nat.lt_of_lt_of_le hp3.2 hs7⟩⟩
  have hM0 : SM bx w.heap.size w0.heap.size c v r ⟨i.o, (k : Int), i.n⟩ p W2.drew := ⟨hX3, hi3, hp3⟩
  clear hX3 hi3 hp3 hr3 hdr hX2 hi2 hp2 hr2 hB2 hB3 hS2 hS1 hb22 hS0 hpt q1 hX1 hi1 hr0 hfar hk7
  go_upto_region 2 with fail
  refine wp_region_held_drew (S := (SM bx w.heap.size w0.heap.size c v r ⟨i.o, (k : Int), i.n⟩ p)) (by kernel_rfl) (by exact hM0) ?_
  intro hHeld
  generalize W2.drew = w3 at *
  refine wpAnyH_take (i := 0) (v := ?_) (by simp only [gA, gB, gC]; rfl) (by kernel_rfl) (by kernel_rfl) (by kernel_rfl) (by exact fun _ _ _ h => h) (Or.inl ⟨by rfl, ?_⟩) (by assumption) ?_; rotate_left; (focus (intro w hSw; (try dsimp only at hSw); go_simp; try with_reducible rfl)); (try simp only [Act.put, sA, sB, sC])
  refine wpAnyH_take (i := 1) (v := _) (by simp only [gA, gB, gC]; rfl) (by kernel_rfl) (by kernel_rfl) (by kernel_rfl) (by exact fun _ _ _ h => h) (yields_cellI (by rfl) _ rfl ⟨w0.heap.size, 0, none⟩ rfl (.int .i64 p.s) (fun _ q => (q.p.1 0 _ rfl).1) intI_load) (by assumption) ?_; (try simp only [Act.put, sA, sB, sC])
  refine wpAnyH_take (i := 2) (v := ?_) (by simp only [gA, gB, gC]; rfl) (by kernel_rfl) (by kernel_rfl) (by kernel_rfl) (by exact fun _ _ _ h => h) (Or.inl ⟨by rfl, ?_⟩) (by assumption) ?_; rotate_left; (focus (intro w hSw; (try dsimp only at hSw); go_simp; try with_reducible rfl)); (try simp only [Act.put, sA, sB, sC])
  refine wpAnyH_take (i := 3) (v := _) (by simp only [gA, gB, gC]; rfl) (by kernel_rfl) (by kernel_rfl) (by kernel_rfl) (by exact fun _ _ _ h => h) (yields_cellI (by rfl) _ rfl ⟨w0.heap.size, 1, none⟩ rfl (.int .i64 p.f) (fun _ q => (q.p.1 1 _ rfl).1) intI_load) (by assumption) ?_; (try simp only [Act.put, sA, sB, sC])
  refine wpAnyH_take (i := 4) (v := ?_) (by simp only [gA, gB, gC]; rfl) (by kernel_rfl) (by kernel_rfl) (by kernel_rfl) (by exact fun _ _ _ h => h) (Or.inl ⟨by rfl, ?_⟩) (by assumption) ?_; rotate_left; (focus (intro w hSw; (try dsimp only at hSw); go_simp; try with_reducible rfl)); (try simp only [Act.put, sA, sB, sC])
  refine wpAnyH_take (i := 5) (v := _) (by simp only [gA, gB, gC]; rfl) (by kernel_rfl) (by kernel_rfl) (by kernel_rfl) (by exact fun _ _ _ h => h) (yields_cellI (by rfl) _ rfl ⟨w.heap.size, 2, none⟩ rfl (.int .i64 i.n) (fun _ q => (q.i.1 2 _ rfl).1) intI_load) (by assumption) ?_; (try simp only [Act.put, sA, sB, sC])
  refine wpAnyH_take (i := 6) (v := ?_) (by simp only [gA, gB, gC]; rfl) (by kernel_rfl) (by kernel_rfl) (by kernel_rfl) (by exact fun _ _ _ h => h) (Or.inl ⟨by rfl, ?_⟩) (by assumption) ?_; rotate_left; (focus (intro w hSw; (try dsimp only at hSw); go_simp; try with_reducible rfl)); (try simp only [Act.put, sA, sB, sC])
  refine wpAnyH_take (i := 7) (v := ?_) (by simp only [gA, gB, gC]; rfl) (by kernel_rfl) (by kernel_rfl) (by kernel_rfl) (by exact fun _ _ _ h => h) (Or.inl ⟨by rfl, ?_⟩) (by assumption) ?_; rotate_left; (focus (intro w hSw; (try dsimp only at hSw); go_simp; try with_reducible rfl)); (try simp only [Act.put, sA, sB, sC])
  refine wpAnyH_take (i := 8) (v := ?_) (by simp only [gA, gB, gC]; rfl) (by kernel_rfl) (by kernel_rfl) (by kernel_rfl) (by exact fun _ _ _ h => h) (Or.inl ⟨by rfl, ?_⟩) (by assumption) ?_; rotate_left; (focus (intro w hSw; (try dsimp only at hSw); go_simp; try with_reducible rfl)); (try simp only [Act.put, sA, sB, sC])
  refine wpAnyH_take (i := 9) (v := ?_) (by simp only [gA, gB, gC]; rfl) (by kernel_rfl) (by kernel_rfl) (by kernel_rfl) (by exact fun _ _ _ h => h) (Or.inl ⟨by rfl, ?_⟩) (by assumption) ?_; rotate_left; (focus (intro w hSw; (try dsimp only at hSw); go_simp; try with_reducible rfl)); (try simp only [Act.put, sA, sB, sC])
  refine wpAnyH_take (i := 10) (v := ?_) (by simp only [gA, gB, gC]; rfl) (by kernel_rfl) (by kernel_rfl) (by kernel_rfl) (by exact fun _ _ _ h => h) (Or.inl ⟨by rfl, ?_⟩) (by assumption) ?_; rotate_left; (focus (intro w hSw; (try dsimp only at hSw); go_simp; try with_reducible rfl)); (try simp only [Act.put, sA, sB, sC])
  refine wpAnyH_take (i := 11) (v := _) (by simp only [gA, gB, gC]; rfl) (by kernel_rfl) (by kernel_rfl) (by kernel_rfl) (by exact fun _ _ _ h => h) (yields_cellI (by rfl) _ rfl ⟨bx, 2, none⟩ rfl (.int .i64 c.ring) (fun _ q => q.x.ring) intI_load) (by assumption) ?_; (try simp only [Act.put, sA, sB, sC])
  refine wpAnyH_take (i := 12) (v := ?_) (by simp only [gA, gB, gC]; rfl) (by kernel_rfl) (by kernel_rfl) (by kernel_rfl) (by exact fun _ _ _ h => h) (Or.inl ⟨by rfl, ?_⟩) (by assumption) ?_; rotate_left; (focus (intro w hSw; (try dsimp only at hSw); go_simp; try with_reducible rfl)); (try simp only [Act.put, sA, sB, sC])
  refine wpAnyH_take (i := 13) (v := _) (by simp only [gA, gB, gC]; rfl) (by kernel_rfl) (by kernel_rfl) (by kernel_rfl) (by exact fun _ _ _ h => h) (yields_cellI (by rfl) _ rfl ⟨w0.heap.size, 2, none⟩ rfl (.int .i64 p.r) (fun _ q => (q.p.1 2 _ rfl).1) intI_load) (by assumption) ?_; (try simp only [Act.put, sA, sB, sC])
  refine wpAnyH_take (i := 14) (v := ?_) (by simp only [gA, gB, gC]; rfl) (by kernel_rfl) (by kernel_rfl) (by kernel_rfl) (by exact fun _ _ _ h => h) (Or.inl ⟨by rfl, ?_⟩) (by assumption) ?_; rotate_left; (focus (intro w hSw; (try dsimp only at hSw); go_simp; try with_reducible rfl)); (try simp only [Act.put, sA, sB, sC])
  refine wpAnyH_take (i := 15) (v := ?_) (by simp only [gA, gB, gC]; rfl) (by kernel_rfl) (by kernel_rfl) (by kernel_rfl) (by exact fun _ _ _ h => h) (Or.inl ⟨by rfl, ?_⟩) (by assumption) ?_; rotate_left; (focus (intro w hSw; (try dsimp only at hSw); go_simp; try with_reducible rfl)); (try simp only [Act.put, sA, sB, sC])
  refine wpAnyH_ready (rs := [16]) (by kernel_rfl) (by simp) ?_
  refine AllReadyH.cons (by simp only [gA, gB, gC]; rfl) (fun K hK => ?_) AllReadyH.nil
  refine step_store_rowC rfl _ _ rfl (w.heap.size + 1) rfl (ptr3 ⟨p.s, o, R⟩) (by simp [Act.eval, how, hgm]) hth7 hszP (ptr3J_one _) hW7 ?_
  (try simp only [Act.put, sA, sB, sC])
  refine hK.out _ _ (hM7) ?_
  clear hHeld hK
  intro hHeld
  (try simp only [Act.put, sA, sB, sC])
  refine wpAnyH_done (by kernel_rfl) ?_ _
  go_wp2_with fail
  refine bodyPost_ret (v := .agg (ptr3 ⟨p.s, o, R⟩).toArray) (results_row1 rfl _ _ (w.heap.size + 1) rfl (ptr3 ⟨p.s, o, R⟩) hb7.range hundP rfl hszP) rfl ?_
  exact ⟨rfl, hB7⟩
end Go.Proofs.Ytinibccphecdfaa

/-! PACKAGE cpu AS IT LANDED: read. Written by mk_cpufnd.py. -/
namespace Go.Proofs.Ytinibccphecdfaa
open Go.RowKit
set_option maxRecDepth 8000
set_option linter.unusedSimpArgs false
set_option linter.unusedVariables false

def rdG (g : Sg) (q : Ptr) : Int := if g.is = false then 35 else if hasM g.md 1 = false ∨ mayR g.rg q.r = false then 31 else if ¬ inG g q.f then 35 else 0
theorem rdE_eq (c : Cp) (m : List Sg) (i : Ins) : rdE c m i = rdG (kn m (memP c i).s) (memP c i) := rfl
theorem rdW_eq (c : Cp) (m : List Sg) (i : Ins) : rdW c m i = wAt (kn m (memP c i).s) (memP c i).f := rfl
theorem fld_rg {b : Nat} {g : Sg} {u : Value} {W : World} (h : BlkL b (sg6 g u) W) : W.rangeAt b 2 (rg4 g.rg) := fun j z hz => by
  match j, hz with
  | 0, hz => exact (h.1 2 z hz).1
  | 1, hz => exact (h.1 3 z hz).1
  | 2, hz => exact (h.1 4 z hz).1
  | 3, hz => exact (h.1 5 z hz).1
  | j + 4, hz => simp at hz
/-- What read's last region keeps. -/
structure SR (bq bg : Nat) (q : Ptr) (G : List Value) (W : World) : Prop where
  q : BlkL bq (ptr3 q) W
  g : BlkL bg G W
theorem SR.keep {bq bg : Nat} {q : Ptr} {G : List Value} {W W' : World} (h : SR bq bg q G W) (hb : Below W.heap.size W W') : SR bq bg q G W' := ⟨stab_blk _ _ _ _ h.q hb, stab_blk _ _ _ _ h.g hb⟩
theorem rg4_one (x : Rg) : ∀ u ∈ rg4 x, u.oneCell' = true := fun u hu => by
  simp [rg4] at hu
  rcases hu with rfl | rfl | rfl | rfl <;> rfl
theorem results_cell_row {fn : Func} {p q : Tmp} {T : TypeId} {d : TypeDesc} (h : fn.results = #[.tmp p, .cell q T]) (tmps : Array Value) (w : World) (v : Value) (hv : tmps.getD p undef = v) (g : Nat) (hq : tmps.getD q undef = .pointer (some ⟨g, 0, none⟩)) (cs : List Value) (hr : w.rangeAt g 0 cs)
    (hu : Try.prog.underlying T = some d) (hd : d.isRow = true) (hi : (Try.prog.info? T).map (·.size) = some cs.length) :
    (results fn tmps).run Try.prog w = .ok (.tuple #[v, .agg cs.toArray]) w := by
  have hp' : tmps[q]?.getD undef = .pointer (some ⟨g, 0, none⟩) := by simpa using hq
  have hv' : tmps[p]?.getD undef = v := by simpa using hv
  have e := run_loadVar_mid (P := Try.prog) w g 0 T cs d hr hu hd hi
  simp [results, h, hp', hv', asAddr, e]
set_option maxRecDepth 8000 in
set_option maxHeartbeats 4000000 in
theorem cread_any (bm bx : Nat) (a : Option Addr) (cap : Nat) (m : List PG) (hm : MG m) (c : Cp) (v : Value) (r : List Value) (q : Ptr) (g : Sg) (hg : kn (m.map (·.g)) q.s = g) (E : Int) (hE : rdG g q = E) (w : World) (hM : MAt bm a cap m w) (hX : XAt bx c v (memI bm :: r) w) :
    Calls Try.prog 51 #[.pointer (some ⟨bx, 0, none⟩), .agg (ptr3 q).toArray] w fun e w' => e = (if E = 0 then .returned (.tuple #[.int .i64 (wAt g q.f), .agg (rg4 g.rg).toArray]) else .panicked (thr E)) ∧ Below w.heap.size w w' := by
  have hundC := Try.underlying60
  have hszC : (Try.prog.info? 60).map (·.size) = some 6 := by kernel_rfl
  have hundR := Try.underlying55
  have hszR : (Try.prog.info? 55).map (·.size) = some 4 := by kernel_rfl
  have hq0 := blkl_alloc w (ptr3 q).toArray 24
  have hB0 := alloc_below w (.cells (ptr3 q).toArray 24)
  have hsw : (w.alloc (.cells (ptr3 q).toArray 24)).heap.size = w.heap.size + 1 := by simp
  have hr0 := blkl_alloc (w.alloc (.cells (ptr3 q).toArray 24)) (rg4 ⟨0, 0, 0, 0⟩).toArray 55
  have hb := alloc_below (w.alloc (.cells (ptr3 q).toArray 24)) (.cells (rg4 ⟨0, 0, 0, 0⟩).toArray 55)
  rw [hsw] at hr0
  have hX1 := (hX.keep hB0).keep hb
  have hM1 := (hM.below hB0).below hb
  have hq1 := stab_blk _ _ _ _ hq0 hb
  have hB1 := Below.then hB0 hb
  replace hq1 : BlkL w.heap.size (ptr3 q) ((w.alloc (.cells #[.int .i64 q.s, .int .i64 q.f, .int .i64 q.r] 24)).alloc (.cells #[.int .i64 0, .int .i64 0, .int .i64 0, .int .i64 0] 55)) := hq1
  replace hr0 : BlkL (w.heap.size + 1) (rg4 ⟨0, 0, 0, 0⟩) ((w.alloc (.cells #[.int .i64 q.s, .int .i64 q.f, .int .i64 q.r] 24)).alloc (.cells #[.int .i64 0, .int .i64 0, .int .i64 0, .int .i64 0] 55)) := hr0
  replace hX1 : XAt bx c v (memI bm :: r) ((w.alloc (.cells #[.int .i64 q.s, .int .i64 q.f, .int .i64 q.r] 24)).alloc (.cells #[.int .i64 0, .int .i64 0, .int .i64 0, .int .i64 0] 55)) := hX1
  replace hM1 : MAt bm a cap m ((w.alloc (.cells #[.int .i64 q.s, .int .i64 q.f, .int .i64 q.r] 24)).alloc (.cells #[.int .i64 0, .int .i64 0, .int .i64 0, .int .i64 0] 55)) := hM1
  replace hB1 : Below w.heap.size w ((w.alloc (.cells #[.int .i64 q.s, .int .i64 q.f, .int .i64 q.r] 24)).alloc (.cells #[.int .i64 0, .int .i64 0, .int .i64 0, .int .i64 0] 55)) := hB1
  clear hq0 hB0 hsw hb hX hM
  have kn0 := fun (W : World) h1 h2 => cseg_none bm bx a cap m hm c v r q.s W h1 h2
  have kn1 := fun (W : World) h1 h2 => cseg_some bm bx a cap m hm c v r q.s W h1 h2
  rw [hg] at kn0 kn1
  by_cases c1 : g.is = false
  · have hEE : (if E = 0 then Ending.returned (.tuple #[.int .i64 (wAt g q.f), .agg (rg4 g.rg).toArray]) else .panicked (thr E)) = .panicked (thr 35) := by
      have e : E = 35 := by rw [← hE, rdG, if_pos c1]
      rw [e]; rfl
    rw [hEE]
    clear hE hEE kn1 hg
    go_enter Try.func51, Try.ntmps51
    go_upto_region 1 with fail
    generalize (w.alloc (.cells #[.int .i64 q.s, .int .i64 q.f, .int .i64 q.r] 24)).alloc (.cells #[.int .i64 0, .int .i64 0, .int .i64 0, .int .i64 0] 55) = W0 at *
    have z0 := (hq1.1 0 _ rfl).1
    go_wp2_with fail
    refine (kn0 W0 hM1 hX1 c1).mono ?_
    rintro e W1 ⟨rfl, hb⟩
    go_wp2_with fail
    exact diedC ⟨rfl, Below.then hB1 hb⟩
  have c1' : g.is = true := by simpa using c1
  obtain ⟨e2, he2⟩ : ∃ e2, (if E = 0 then Ending.returned (.tuple #[.int .i64 (wAt g q.f), .agg (rg4 g.rg).toArray]) else .panicked (thr E)) = e2 := ⟨_, rfl⟩
  rw [he2]
  replace he2 : Aside ((if E = 0 then Ending.returned (.tuple #[.int .i64 (wAt g q.f), .agg (rg4 g.rg).toArray]) else .panicked (thr E)) = e2) := he2
  replace hE : Aside (rdG g q = E) := hE
  clear kn0 hg
  go_enter Try.func51, Try.ntmps51
  go_upto_region 1 with fail
  generalize (w.alloc (.cells #[.int .i64 q.s, .int .i64 q.f, .int .i64 q.r] 24)).alloc (.cells #[.int .i64 0, .int .i64 0, .int .i64 0, .int .i64 0] 55) = W0 at *
  have z0 := (hq1.1 0 _ rfl).1
  go_wp2_with fail
  refine (kn1 W0 hM1 hX1 c1').mono ?_
  rintro e W1 ⟨u, rfl, ho, hb⟩
  obtain ⟨W2, hW2, hth2, hg2, hB2⟩ := new_sg W1 g u
  obtain ⟨ua, uc, hu, -, -, hrow⟩ := ho.slice wd_okC.len
  have hq2 := stab_blk _ _ _ _ (stab_blk _ _ _ _ hq1 hb) hB2
  have hr2 := stab_blk _ _ _ _ (stab_blk _ _ _ _ hr0 hb) hB2
  have hBB := Below.then (Below.then hB1 hb) hB2
  have hrow2 := hrow.below wd_okC.len hB2
  have hl1 := hr0.2
  have hl2 := hb.size
  subst hu
  have hone := sg6_one g ua g.ws.length uc
  have hrx := hg2.range
  have hrgx := fld_rg hg2
  have ka := fun (W : World) => allows_any g (.slice ua g.ws.length uc) 1 W
  have kw0 := fun (W : World) h => cword_no g ua uc q.f W h
  have kw1 := fun (W : World) h1 h2 => cword_ok g ua uc q.f W h1 h2
  obtain ⟨X, hXe⟩ : ∃ X, sg6 g (.slice ua g.ws.length uc) = X := ⟨_, rfl⟩
  have hl : X.length = 6 := by rw [← hXe]; rfl
  have hszX : (Try.prog.info? 60).map (·.size) = some X.length := by rw [hl]; exact hszC
  have hfr : ∀ W b, BlkL b X W → W.rangeAt b 2 (rg4 g.rg) := fun W b h => by rw [← hXe] at h; exact fld_rg h
  simp only [hXe] at hW2 hth2 hg2 hone hrx ka kw0 kw1
  have hXv : Aside (.agg (sg6 g (.slice ua g.ws.length uc)).toArray = Value.agg X.toArray) := by rw [hXe]; exact rfl
  clear hXe hl ho hrow hb hB2 hq1 hr0 hB1 z0 kn1 hM1 hX1 hm
  go_upto_region 2 with (first | (refine wpList_store_row rfl _ _ rfl W1.heap.size rfl X hXv.out hth2 hszX hone hW2 ?_) | fail)
  clear hW2 hth2 hXv
  have hl3 := hg2.2
  generalize W1.heap.size = bg at *
  have z2 := (hq2.1 2 _ rfl).1
  cases c2 : hasM g.md 1 with
  | false =>
    have hEE : Aside (e2 = .panicked (thr 31)) := by
      have e : E = 31 := by rw [← hE.out, rdG, if_neg c1, if_pos (.inl c2)]
      show e2 = _
      rw [← he2.out, e]; rfl
    rw [c2] at ka
    clear hE he2 c2 kw0 kw1 hrgx z2
    go_wp2_with (first | (refine wpList_load_row rfl _ rfl bg rfl X hrx hundC rfl hszX ?_) | fail)
    refine (ka W2).mono ?_
    rintro e W3 ⟨rfl, hb⟩
    go_wp2_with fail
    refine (need_no 31 W3).mono ?_
    rintro e W4 ⟨rfl, rfl⟩
    go_wp2_with fail
    exact diedC ⟨hEE.out.symm, Below.then hBB hb⟩
  | true =>
  rw [c2] at ka
  go_wp2_with (first | (refine wpList_load_row rfl _ rfl bg rfl X hrx hundC rfl hszX ?_) | fail)
  refine (ka W2).mono ?_
  rintro e W3 ⟨rfl, hb⟩
  replace hq2 := stab_blk _ _ _ _ hq2 hb
  replace hr2 := stab_blk _ _ _ _ hr2 hb
  replace hg2 := stab_blk _ _ _ _ hg2 hb
  replace hBB := Below.then hBB hb
  replace hrow2 := hrow2.below wd_okC.len hb
  replace z2 := (hq2.1 2 _ rfl).1
  replace hrgx := hfr _ _ hg2
  replace hrx := hg2.range
  have hb8 : g.rg.v = .agg (rg4 g.rg).toArray := rfl
  have kx := fun (W : World) => mayRead_any g.rg q.r W
  rw [hb8] at kx
  clear hb ka hb8
  go_wp2_with (first | (refine wpList_load_midg (by rfl) _ rfl bg 2 rfl (rg4 g.rg) hrgx hundR rfl hszR ?_) | fail)
  refine (kx W3).mono ?_
  rintro e W4 ⟨rfl, hb⟩
  replace hq2 := stab_blk _ _ _ _ hq2 hb
  replace hr2 := stab_blk _ _ _ _ hr2 hb
  replace hg2 := stab_blk _ _ _ _ hg2 hb
  replace hBB := Below.then hBB hb
  replace hrow2 := hrow2.below wd_okC.len hb
  clear hb kx z2 hrgx hrx
  cases c3 : mayR g.rg q.r with
  | false =>
    have hEE : Aside (e2 = .panicked (thr 31)) := by
      have e : E = 31 := by rw [← hE.out, rdG, if_neg c1, if_pos (.inr c3)]
      show e2 = _
      rw [← he2.out, e]; rfl
    clear hE he2 c2 kw0 kw1 c3
    go_wp2_with fail
    refine (need_no 31 W4).mono ?_
    rintro e W5 ⟨rfl, rfl⟩
    go_wp2_with fail
    exact diedC ⟨hEE.out.symm, hBB⟩
  | true =>
  have hE2 : Aside (E = if ¬ inG g q.f then 35 else 0) := by
    show _ = _
    rw [← hE.out, rdG, if_neg c1, if_neg (by rw [c3, c2]; simp)]
  clear hE c1 c2 c1' c3
  go_wp2_with fail
  refine (need_ok 31 W4).mono ?_
  rintro e W5 ⟨rfl, rfl⟩
  go_upto_region 3 with fail
  have hdr := (Below.refl W5.heap.size W5).drew
  have hS0 : SR w.heap.size bg q X W5.drew := ⟨stab_blk _ _ _ _ hq2 hdr, stab_blk _ _ _ _ hg2 hdr⟩
  have hB0 := Below.then hBB hdr
  have hrow0 := hrow2.below wd_okC.len hdr
  have hr0 := stab_blk _ _ _ _ hr2 hdr
  clear hq2 hr2 hg2 hBB hrow2 hdr
  by_cases c5 : inG g q.f
  rotate_left
  · have hEE : Aside (e2 = .panicked (thr 35)) := by
      have e : E = 35 := by rw [hE2.out, if_pos c5]
      show e2 = _
      rw [← he2.out, e]; rfl
    clear hE2 he2 kw1
    refine wp_region_held_drew (S := (SR w.heap.size bg q X)) (by kernel_rfl) (by exact hS0) ?_
    intro hHeld
    generalize W5.drew = w0 at *
    refine wpAnyH_take (i := 0) (v := _) (by simp only [gA, gB, gC]; rfl) (by kernel_rfl) (by kernel_rfl) (by kernel_rfl) (by exact fun _ _ _ h => h) (yields_row (by rfl) _ rfl bg rfl X (fun _ s => s.g.range) hundC rfl hszX) (by assumption) ?_; (try simp only [Act.put, sA, sB, sC])
    refine wpAnyH_take (i := 1) (v := ?_) (by simp only [gA, gB, gC]; rfl) (by kernel_rfl) (by kernel_rfl) (by kernel_rfl) (by exact fun _ _ _ h => h) (Or.inl ⟨by rfl, ?_⟩) (by assumption) ?_; rotate_left; (focus (intro w hSw; (try dsimp only at hSw); go_simp; try with_reducible rfl)); (try simp only [Act.put, sA, sB, sC])
    refine wpAnyH_take (i := 2) (v := _) (by simp only [gA, gB, gC]; rfl) (by kernel_rfl) (by kernel_rfl) (by kernel_rfl) (by exact fun _ _ _ h => h) (yields_cellI (by rfl) _ rfl ⟨w.heap.size, 1, none⟩ rfl (.int .i64 q.f) (fun _ s => (s.q.1 1 _ rfl).1) intI_load) (by assumption) ?_; (try simp only [Act.put, sA, sB, sC])
    refine wpAnyH_take (i := 4) (v := ?_) (by simp only [gA, gB, gC]; rfl) (by kernel_rfl) (by kernel_rfl) (by kernel_rfl) (by exact fun _ _ _ h => h) (Or.inl ⟨by rfl, ?_⟩) (by assumption) ?_; rotate_left; (focus (intro w hSw; (try dsimp only at hSw); go_simp; try with_reducible rfl)); (try simp only [Act.put, sA, sB, sC])
    refine wpAnyH_take (i := 5) (v := _) (by simp only [gA, gB, gC]; rfl) (by kernel_rfl) (by kernel_rfl) (by kernel_rfl) (by exact fun _ _ _ h => h) (yieldsIf_load_mid (by rfl) 55 _ rfl bg 2 rfl (rg4 g.rg) _ (fun W s => hfr W bg s.g) hundR rfl hszR) (by assumption) ?_; (try simp only [Act.put, sA, sB, sC])
    refine wpAnyH_ready (rs := [3]) (by kernel_rfl) (by simp) ?_
    refine AllReadyH.cons (by simp only [gA, gB, gC]; rfl) (fun K hK => ?_) AllReadyH.nil
    go_simp
    go_at_call 68
    refine (kw0 w0 c5).mono ?_
    rintro e w1 ⟨rfl, hb⟩
    exact (show _ ∧ _ from ⟨rfl, hEE.out.symm, Below.then hB0 hb⟩)
  have hEE : Aside (e2 = .returned (.tuple #[.int .i64 (wAt g q.f), .agg (rg4 g.rg).toArray])) := by
    have e : E = 0 := by rw [hE2.out, if_neg (by simpa using c5)]
    show e2 = _
    rw [← he2.out, e]; rfl
  clear hE2 he2 kw0
  refine wp_region_held_drew (S := (SR w.heap.size bg q X)) (by kernel_rfl) (by exact hS0) ?_
  intro hHeld
  generalize W5.drew = w0 at *
  refine wpAnyH_take (i := 0) (v := _) (by simp only [gA, gB, gC]; rfl) (by kernel_rfl) (by kernel_rfl) (by kernel_rfl) (by exact fun _ _ _ h => h) (yields_row (by rfl) _ rfl bg rfl X (fun _ s => s.g.range) hundC rfl hszX) (by assumption) ?_; (try simp only [Act.put, sA, sB, sC])
  refine wpAnyH_take (i := 1) (v := ?_) (by simp only [gA, gB, gC]; rfl) (by kernel_rfl) (by kernel_rfl) (by kernel_rfl) (by exact fun _ _ _ h => h) (Or.inl ⟨by rfl, ?_⟩) (by assumption) ?_; rotate_left; (focus (intro w hSw; (try dsimp only at hSw); go_simp; try with_reducible rfl)); (try simp only [Act.put, sA, sB, sC])
  refine wpAnyH_take (i := 2) (v := _) (by simp only [gA, gB, gC]; rfl) (by kernel_rfl) (by kernel_rfl) (by kernel_rfl) (by exact fun _ _ _ h => h) (yields_cellI (by rfl) _ rfl ⟨w.heap.size, 1, none⟩ rfl (.int .i64 q.f) (fun _ s => (s.q.1 1 _ rfl).1) intI_load) (by assumption) ?_; (try simp only [Act.put, sA, sB, sC])
  refine wpAnyH_take (i := 4) (v := ?_) (by simp only [gA, gB, gC]; rfl) (by kernel_rfl) (by kernel_rfl) (by kernel_rfl) (by exact fun _ _ _ h => h) (Or.inl ⟨by rfl, ?_⟩) (by assumption) ?_; rotate_left; (focus (intro w hSw; (try dsimp only at hSw); go_simp; try with_reducible rfl)); (try simp only [Act.put, sA, sB, sC])
  refine wpAnyH_take (i := 5) (v := _) (by simp only [gA, gB, gC]; rfl) (by kernel_rfl) (by kernel_rfl) (by kernel_rfl) (by exact fun _ _ _ h => h) (yieldsIf_load_mid (by rfl) 55 _ rfl bg 2 rfl (rg4 g.rg) _ (fun W s => hfr W bg s.g) hundR rfl hszR) (by assumption) ?_; (try simp only [Act.put, sA, sB, sC])
  refine wpAnyH_ready (rs := [3]) (by kernel_rfl) (by simp) ?_
  refine AllReadyH.cons (by simp only [gA, gB, gC]; rfl) (fun K hK => ?_) AllReadyH.nil
  go_simp
  go_at_call 68
  refine (kw1 w0 c5 hrow0).mono ?_
  rintro e w1 ⟨rfl, hb⟩
  have hS1 := hS0.keep hb
  have hr1 := stab_blk _ _ _ _ hr0 hb
  have hB1 := Below.then hB0 hb
  clear hS0 hr0 hB0 hrow0 hb kw1
  refine hK.out _ _ (hS1) ?_
  clear hHeld hK
  intro hHeld
  generalize wAt g q.f = wd at *
  (try simp only [Act.put, sA, sB, sC])
  refine wpAnyH_take (i := 6) (v := ?_) (by simp only [gA, gB, gC]; rfl) (by kernel_rfl) (by kernel_rfl) (by kernel_rfl) (by exact fun _ _ _ h => h) (Or.inl ⟨by rfl, ?_⟩) (by assumption) ?_; rotate_left; (focus (intro w hSw; (try dsimp only at hSw); go_simp; try with_reducible rfl)); (try simp only [Act.put, sA, sB, sC])
  refine wpAnyH_ready (rs := [7]) (by kernel_rfl) (by simp) ?_
  refine AllReadyH.cons (by simp only [gA, gB, gC]; rfl) (fun K hK => ?_) AllReadyH.nil
  obtain ⟨W7, hW7, hth7, hb7, hk7⟩ := put_any hr1 (ds := rg4 g.rg) rfl (by show 0 < 4; decide)
  have hB7 := hk7 _ _ (Nat.le_succ _) hB1
  have hfar : ∀ j, j ≠ w.heap.size + 1 → W7.heap[j]? = w1.heap[j]? := fun j hj => by rw [← hW7]; exact heap_setCells_other hj _ _ _
  have hs7 : w1.heap.size ≤ W7.heap.size := (hk7 0 w1 (Nat.zero_le _) (Below.refl _ _)).size
  have hS7 : SR w.heap.size bg q X W7 := ⟨⟨hS1.q.1.same (hfar _ (by omega)), Nat.lt_of_lt_of_le hS1.q.2 hs7⟩, ⟨hS1.g.1.same (hfar _ (by omega)), Nat.lt_of_lt_of_le hS1.g.2 hs7⟩⟩
  refine step_store_rowC rfl _ _ rfl (w.heap.size + 1) rfl (rg4 g.rg) rfl hth7 hszR (rg4_one _) hW7 ?_
  (try simp only [Act.put, sA, sB, sC])
  refine hK.out _ _ (hS7) ?_
  clear hHeld hK
  intro hHeld
  (try simp only [Act.put, sA, sB, sC])
  refine wpAnyH_done (by kernel_rfl) ?_ _
  go_wp2_with fail
  refine bodyPost_ret (v := .tuple #[.int .i64 wd, .agg (rg4 g.rg).toArray]) (results_cell_row rfl _ _ (.int .i64 wd) rfl (w.heap.size + 1) rfl (rg4 g.rg) hb7.range hundR rfl hszR) rfl ?_
  exact ⟨hEE.out.symm, hB7⟩
end Go.Proofs.Ytinibccphecdfaa

/-! PACKAGE cpu AS IT LANDED: write. Written by mk_cpufne.py. -/
namespace Go.Proofs.Ytinibccphecdfaa
open Go.RowKit
set_option maxRecDepth 8000
set_option linter.unusedSimpArgs false
set_option linter.unusedVariables false

def wrG (g : Sg) (q : Ptr) : Int := if g.is = false then 35 else if hasM g.md 2 = false ∨ mayW g.rg q.r = false then 32 else if ¬ inG g q.f then 35 else 0
theorem wrE_eq (c : Cp) (m : List Sg) (i : Ins) : wrE c m i = wrG (kn m (memP c i).s) (memP c i) := rfl
/-- What a write comes to: a fault, or a word that is noted. -/
def WrP (bm : Nat) (sl : Value) (n : Int) (q : Ptr) (A E : Int) (w : World) (e : Ending) (w' : World) : Prop :=
  (E ≠ 0 ∧ e = .panicked (thr E) ∧ Below w.heap.size w w') ∨ (E = 0 ∧ (∃ r, e = .returned r) ∧ BlkL bm (memCs sl true q.s q.f A (n + 1)) w' ∧ Sole bm w w')
/-- What write's last region keeps. -/
structure SW (bq bx : Nat) (q : Ptr) (A : Int) (M : Value) (W : World) : Prop where
  q : BlkL bq (ptr3 q) W
  a : W.cell? ⟨bx, 3, none⟩ = some (.int .i64 A)
  m : W.cell? ⟨bx, 18, none⟩ = some M
theorem int64_load (w : World) (y : Addr) (v : Value) (h : w.cell? y = some v) : (Instr.loadAt 2 (.pointer (some y))).run Try.prog w = .ok v w := by
  have h1 := Try.underlying2
  go_simp
theorem memI_load (w : World) (y : Addr) (v : Value) (h : w.cell? y = some v) : (Instr.loadAt 87 (.pointer (some y))).run Try.prog w = .ok v w := by
  have h1 := Try.underlying87
  go_simp
theorem finds_wr (p : Addr) (w : World) : Sem.run Try.prog (method 257 43 (.pointer (some p)) "Write") w = .ok (116, .pointer (some p)) w := by rfl
theorem enters_wr (args : Array Value) (w : World) : Sem.run Try.prog (callFunc 116 args) w = .ok (.enter 116 args) w := by rfl
set_option maxRecDepth 8000 in
set_option maxHeartbeats 4000000 in
theorem cwrite_any (bm bx : Nat) (a : Option Addr) (cap : Nat) (m : List PG) (hm : MG m) (c : Cp) (v : Value) (r : List Value) (q : Ptr) (g : Sg) (hg : kn (m.map (·.g)) q.s = g) (E : Int) (hE : wrG g q = E) (is : Bool) (s o x n : Int) (hn : 0 ≤ n ∧ n < 1000000) (w : World) (hN : BlkL bm (memCs (.slice a m.length cap) is s o x n) w) (hR : RowG w a m) (hX : XAt bx c v (memI bm :: r) w) (hne : bx ≠ bm) :
    Calls Try.prog 53 #[.pointer (some ⟨bx, 0, none⟩), .agg (ptr3 q).toArray] w (WrP bm (.slice a m.length cap) n q c.a E w) := by
  have hundC := Try.underlying60
  have hszC : (Try.prog.info? 60).map (·.size) = some 6 := by kernel_rfl
  have hundR := Try.underlying55
  have hszR : (Try.prog.info? 55).map (·.size) = some 4 := by kernel_rfl
  have hq0 := blkl_alloc w (ptr3 q).toArray 24
  have hB0 := alloc_below w (.cells (ptr3 q).toArray 24)
  have hM : MAt bm a cap m w := ⟨(hN.1 0 _ rfl).1, hR⟩
  have hX1 := hX.keep hB0
  have hM1 := hM.below hB0
  have hq1 := hq0
  have hB1 := hB0
  replace hq1 : BlkL w.heap.size (ptr3 q) (w.alloc (.cells #[.int .i64 q.s, .int .i64 q.f, .int .i64 q.r] 24)) := hq1
  have hN1 : BlkL bm (memCs (.slice a m.length cap) is s o x n) (w.alloc (.cells #[.int .i64 q.s, .int .i64 q.f, .int .i64 q.r] 24)) := stab_blk _ _ _ _ hN hB0
  replace hX1 : XAt bx c v (memI bm :: r) (w.alloc (.cells #[.int .i64 q.s, .int .i64 q.f, .int .i64 q.r] 24)) := hX1
  replace hM1 : MAt bm a cap m (w.alloc (.cells #[.int .i64 q.s, .int .i64 q.f, .int .i64 q.r] 24)) := hM1
  replace hB1 : Below w.heap.size w (w.alloc (.cells #[.int .i64 q.s, .int .i64 q.f, .int .i64 q.r] 24)) := hB1
  have hbm := hN.2
  have hbx := hX.lt
  clear hq0 hB0 hX hM hN hR
  have kn0 := fun (W : World) h1 h2 => cseg_none bm bx a cap m hm c v r q.s W h1 h2
  have kn1 := fun (W : World) h1 h2 => cseg_some bm bx a cap m hm c v r q.s W h1 h2
  rw [hg] at kn0 kn1
  by_cases c1 : g.is = false
  · have e35 : E = 35 := by rw [← hE, wrG, if_pos c1]
    subst e35
    replace hE : Aside (wrG g q = 35) := hE
    clear kn1 hg
    go_enter Try.func53, Try.ntmps53
    go_upto_region 1 with fail
    generalize w.alloc (.cells #[.int .i64 q.s, .int .i64 q.f, .int .i64 q.r] 24) = W0 at *
    have z0 := (hq1.1 0 _ rfl).1
    go_wp2_with fail
    refine (kn0 W0 hM1 hX1 c1).mono ?_
    rintro e W1 ⟨rfl, hb⟩
    go_wp2_with fail
    exact diedC (.inl ⟨by decide, rfl, Below.then hB1 hb⟩)
  have c1' : g.is = true := by simpa using c1
  replace hE : Aside (wrG g q = E) := hE
  clear kn0 hg
  go_enter Try.func53, Try.ntmps53
  go_upto_region 1 with fail
  generalize w.alloc (.cells #[.int .i64 q.s, .int .i64 q.f, .int .i64 q.r] 24) = W0 at *
  have z0 := (hq1.1 0 _ rfl).1
  go_wp2_with fail
  refine (kn1 W0 hM1 hX1 c1').mono ?_
  rintro e W1 ⟨u, rfl, ho, hb⟩
  obtain ⟨W2, hW2, hth2, hg2, hB2⟩ := new_sg W1 g u
  obtain ⟨ua, uc, hu, -, -, hrow⟩ := ho.slice wd_okC.len
  have hq2 := stab_blk _ _ _ _ (stab_blk _ _ _ _ hq1 hb) hB2
  have hN2 := stab_blk _ _ _ _ (stab_blk _ _ _ _ hN1 hb) hB2
  have hX2 := (hX1.keep hb).keep hB2
  have hBB := Below.then (Below.then hB1 hb) hB2
  have hrow2 := hrow.below wd_okC.len hB2
  have hl2 := hb.size
  subst hu
  have hone := sg6_one g ua g.ws.length uc
  have hrx := hg2.range
  have hrgx := fld_rg hg2
  have ka := fun (W : World) => allows_any g (.slice ua g.ws.length uc) 2 W
  have kh := fun (W : World) => has_any g ua uc q.f W
  obtain ⟨X, hXe⟩ : ∃ X, sg6 g (.slice ua g.ws.length uc) = X := ⟨_, rfl⟩
  have hl : X.length = 6 := by rw [← hXe]; rfl
  have hszX : (Try.prog.info? 60).map (·.size) = some X.length := by rw [hl]; exact hszC
  have hfr : ∀ W b, BlkL b X W → W.rangeAt b 2 (rg4 g.rg) := fun W b h => by rw [← hXe] at h; exact fld_rg h
  simp only [hXe] at hW2 hth2 hg2 hone hrx ka kh
  have hXv : Aside (.agg (sg6 g (.slice ua g.ws.length uc)).toArray = Value.agg X.toArray) := by rw [hXe]; exact rfl
  clear hXe hl ho hrow hb hB2 hq1 hN1 hB1 z0 kn1 hM1 hX1 hm
  go_upto_region 2 with (first | (refine wpList_store_row rfl _ _ rfl W1.heap.size rfl X hXv.out hth2 hszX hone hW2 ?_) | fail)
  clear hW2 hth2 hXv
  have hl3 := hg2.2
  generalize W1.heap.size = bg at *
  have z2 := (hq2.1 2 _ rfl).1
  cases c2 : hasM g.md 2 with
  | false =>
    have hEE : Aside (E = 32) := by
      show _ = _
      rw [← hE.out, wrG, if_neg c1, if_pos (.inl c2)]
    rw [c2] at ka
    clear hE c2 kh hrgx z2
    go_wp2_with (first | (refine wpList_load_row rfl _ rfl bg rfl X hrx hundC rfl hszX ?_) | fail)
    refine (ka W2).mono ?_
    rintro e W3 ⟨rfl, hb⟩
    go_wp2_with fail
    refine (need_no 32 W3).mono ?_
    rintro e W4 ⟨rfl, rfl⟩
    go_wp2_with fail
    exact diedC (.inl ⟨by rw [hEE.out]; decide, by rw [hEE.out], Below.then hBB hb⟩)
  | true =>
  rw [c2] at ka
  go_wp2_with (first | (refine wpList_load_row rfl _ rfl bg rfl X hrx hundC rfl hszX ?_) | fail)
  refine (ka W2).mono ?_
  rintro e W3 ⟨rfl, hb⟩
  replace hq2 := stab_blk _ _ _ _ hq2 hb
  replace hN2 := stab_blk _ _ _ _ hN2 hb
  replace hX2 := hX2.keep hb
  replace hg2 := stab_blk _ _ _ _ hg2 hb
  replace hBB := Below.then hBB hb
  replace hrow2 := hrow2.below wd_okC.len hb
  replace z2 := (hq2.1 2 _ rfl).1
  replace hrgx := hfr _ _ hg2
  replace hrx := hg2.range
  have hb8 : g.rg.v = .agg (rg4 g.rg).toArray := rfl
  have kx := fun (W : World) => mayWrite_any g.rg q.r W
  rw [hb8] at kx
  clear hb ka hb8
  go_wp2_with (first | (refine wpList_load_midg (by rfl) _ rfl bg 2 rfl (rg4 g.rg) hrgx hundR rfl hszR ?_) | fail)
  refine (kx W3).mono ?_
  rintro e W4 ⟨rfl, hb⟩
  replace hq2 := stab_blk _ _ _ _ hq2 hb
  replace hN2 := stab_blk _ _ _ _ hN2 hb
  replace hX2 := hX2.keep hb
  replace hg2 := stab_blk _ _ _ _ hg2 hb
  replace hBB := Below.then hBB hb
  replace hrow2 := hrow2.below wd_okC.len hb
  clear hb kx z2 hrgx hrx
  cases c3 : mayW g.rg q.r with
  | false =>
    have hEE : Aside (E = 32) := by
      show _ = _
      rw [← hE.out, wrG, if_neg c1, if_pos (.inr c3)]
    clear hE c2 kh c3
    go_wp2_with fail
    refine (need_no 32 W4).mono ?_
    rintro e W5 ⟨rfl, rfl⟩
    go_wp2_with fail
    exact diedC (.inl ⟨by rw [hEE.out]; decide, by rw [hEE.out], hBB⟩)
  | true =>
  have hE2 : Aside (E = if ¬ inG g q.f then 35 else 0) := by
    show _ = _
    rw [← hE.out, wrG, if_neg c1, if_neg (by rw [c3, c2]; simp)]
  clear hE c1 c2 c1' c3
  go_wp2_with fail
  refine (need_ok 32 W4).mono ?_
  rintro e W5 ⟨rfl, rfl⟩
  have hrx := hg2.range
  cases c5 : decide (inG g q.f) with
  | false =>
    rw [c5] at kh
    have hEE : Aside (E = 35) := by
      show _ = _
      rw [hE2.out, if_pos (by simpa using c5)]
    clear hE2 c5
    have z1 := (hq2.1 1 _ rfl).1
    go_wp2_with (first | (refine wpList_load_row rfl _ rfl bg rfl X hrx hundC rfl hszX ?_) | fail)
    refine (kh W5).mono ?_
    rintro e W6 ⟨rfl, hb⟩
    go_wp2_with fail
    refine (need_no 35 W6).mono ?_
    rintro e W7 ⟨rfl, rfl⟩
    go_wp2_with fail
    exact diedC (.inl ⟨by rw [hEE.out]; decide, by rw [hEE.out], Below.then hBB hb⟩)
  | true =>
  rw [c5] at kh
  have hEE : Aside (E = 0) := by
    show _ = _
    rw [hE2.out, if_neg (by simpa using c5)]
  clear hE2 c5
  have z1 := (hq2.1 1 _ rfl).1
  go_wp2_with (first | (refine wpList_load_row rfl _ rfl bg rfl X hrx hundC rfl hszX ?_) | fail)
  refine (kh W5).mono ?_
  rintro e W6 ⟨rfl, hb⟩
  have hq3 := stab_blk _ _ _ _ hq2 hb
  have hN3 := stab_blk _ _ _ _ hN2 hb
  have hX3 := hX2.keep hb
  have hB3 := Below.then hBB hb
  clear hq2 hN2 hX2 hBB hb z1 kh hrx hg2 hrow2
  go_wp2_with fail
  refine (need_ok 35 W6).mono ?_
  rintro e W7 ⟨rfl, rfl⟩
  go_upto_region 4 with fail
  have hf := finds_wr ⟨bm, 0, none⟩
  have he := enters_wr
  have hdr := (Below.refl W7.heap.size W7).drew
  have hq4 := stab_blk _ _ _ _ hq3 hdr
  have hN4 := stab_blk _ _ _ _ hN3 hdr
  have hX4 := hX3.keep hdr
  have hB4 := Below.then hB3 hdr
  have hS0 : SW w.heap.size bx q c.a (memI bm) W7.drew := ⟨hq4, hX4.a, (hX4.tails (i := 0) rfl).1⟩
  clear hq3 hN3 hX3 hB3 hdr hX4
  refine wp_region_held_drew (S := (SW w.heap.size bx q c.a (memI bm))) (by kernel_rfl) (by exact hS0) ?_
  intro hHeld
  generalize W7.drew = w0 at *
  refine wpAnyH_take (i := 0) (v := ?_) (by simp only [gA, gB, gC]; rfl) (by kernel_rfl) (by kernel_rfl) (by kernel_rfl) (by exact fun _ _ _ h => h) (Or.inl ⟨by rfl, ?_⟩) (by assumption) ?_; rotate_left; (focus (intro w hSw; (try dsimp only at hSw); go_simp; try with_reducible rfl)); (try simp only [Act.put, sA, sB, sC])
  refine wpAnyH_take (i := 1) (v := ?_) (by simp only [gA, gB, gC]; rfl) (by kernel_rfl) (by kernel_rfl) (by kernel_rfl) (by exact fun _ _ _ h => h) (Or.inl ⟨by rfl, ?_⟩) (by assumption) ?_; rotate_left; (focus (intro w hSw; (try dsimp only at hSw); go_simp; try with_reducible rfl)); (try simp only [Act.put, sA, sB, sC])
  refine wpAnyH_take (i := 2) (v := ?_) (by simp only [gA, gB, gC]; rfl) (by kernel_rfl) (by kernel_rfl) (by kernel_rfl) (by exact fun _ _ _ h => h) (Or.inl ⟨by rfl, ?_⟩) (by assumption) ?_; rotate_left; (focus (intro w hSw; (try dsimp only at hSw); go_simp; try with_reducible rfl)); (try simp only [Act.put, sA, sB, sC])
  refine wpAnyH_take (i := 3) (v := _) (by simp only [gA, gB, gC]; rfl) (by kernel_rfl) (by kernel_rfl) (by kernel_rfl) (by exact fun _ _ _ h => h) (yields_cellI (by rfl) _ rfl ⟨bx, 18, none⟩ rfl (memI bm) (fun _ s => s.m) memI_load) (by assumption) ?_; (try simp only [Act.put, sA, sB, sC])
  refine wpAnyH_take (i := 4) (v := ?_) (by simp only [gA, gB, gC]; rfl) (by kernel_rfl) (by kernel_rfl) (by kernel_rfl) (by exact fun _ _ _ h => h) (Or.inl ⟨by rfl, ?_⟩) (by assumption) ?_; rotate_left; (focus (intro w hSw; (try dsimp only at hSw); go_simp; try with_reducible rfl)); (try simp only [Act.put, sA, sB, sC])
  refine wpAnyH_take (i := 5) (v := _) (by simp only [gA, gB, gC]; rfl) (by kernel_rfl) (by kernel_rfl) (by kernel_rfl) (by exact fun _ _ _ h => h) (yields_cellI (by rfl) _ rfl ⟨w.heap.size, 0, none⟩ rfl (.int .i64 q.s) (fun _ s => (s.q.1 0 _ rfl).1) intI_load) (by assumption) ?_; (try simp only [Act.put, sA, sB, sC])
  refine wpAnyH_take (i := 6) (v := ?_) (by simp only [gA, gB, gC]; rfl) (by kernel_rfl) (by kernel_rfl) (by kernel_rfl) (by exact fun _ _ _ h => h) (Or.inl ⟨by rfl, ?_⟩) (by assumption) ?_; rotate_left; (focus (intro w hSw; (try dsimp only at hSw); go_simp; try with_reducible rfl)); (try simp only [Act.put, sA, sB, sC])
  refine wpAnyH_take (i := 7) (v := _) (by simp only [gA, gB, gC]; rfl) (by kernel_rfl) (by kernel_rfl) (by kernel_rfl) (by exact fun _ _ _ h => h) (yields_cellI (by rfl) _ rfl ⟨w.heap.size, 1, none⟩ rfl (.int .i64 q.f) (fun _ s => (s.q.1 1 _ rfl).1) intI_load) (by assumption) ?_; (try simp only [Act.put, sA, sB, sC])
  refine wpAnyH_take (i := 8) (v := ?_) (by simp only [gA, gB, gC]; rfl) (by kernel_rfl) (by kernel_rfl) (by kernel_rfl) (by exact fun _ _ _ h => h) (Or.inl ⟨by rfl, ?_⟩) (by assumption) ?_; rotate_left; (focus (intro w hSw; (try dsimp only at hSw); go_simp; try with_reducible rfl)); (try simp only [Act.put, sA, sB, sC])
  refine wpAnyH_take (i := 9) (v := ?_) (by simp only [gA, gB, gC]; rfl) (by kernel_rfl) (by kernel_rfl) (by kernel_rfl) (by exact fun _ _ _ h => h) (Or.inl ⟨by rfl, ?_⟩) (by assumption) ?_; rotate_left; (focus (intro w hSw; (try dsimp only at hSw); go_simp; try with_reducible rfl)); (try simp only [Act.put, sA, sB, sC])
  refine wpAnyH_take (i := 10) (v := ?_) (by simp only [gA, gB, gC]; rfl) (by kernel_rfl) (by kernel_rfl) (by kernel_rfl) (by exact fun _ _ _ h => h) (Or.inl ⟨by rfl, ?_⟩) (by assumption) ?_; rotate_left; (focus (intro w hSw; (try dsimp only at hSw); go_simp; try with_reducible rfl)); (try simp only [Act.put, sA, sB, sC])
  refine wpAnyH_take (i := 11) (v := ?_) (by simp only [gA, gB, gC]; rfl) (by kernel_rfl) (by kernel_rfl) (by kernel_rfl) (by exact fun _ _ _ h => h) (Or.inl ⟨by rfl, ?_⟩) (by assumption) ?_; rotate_left; (focus (intro w hSw; (try dsimp only at hSw); go_simp; try with_reducible rfl)); (try simp only [Act.put, sA, sB, sC])
  refine wpAnyH_take (i := 12) (v := _) (by simp only [gA, gB, gC]; rfl) (by kernel_rfl) (by kernel_rfl) (by kernel_rfl) (by exact fun _ _ _ h => h) (yields_cellI (by rfl) _ rfl ⟨bx, 3, none⟩ rfl (.int .i64 c.a) (fun _ s => s.a) int64_load) (by assumption) ?_; (try simp only [Act.put, sA, sB, sC])
  refine wpAnyH_take (i := 13) (v := ?_) (by simp only [gA, gB, gC]; rfl) (by kernel_rfl) (by kernel_rfl) (by kernel_rfl) (by exact fun _ _ _ h => h) (Or.inl ⟨by rfl, ?_⟩) (by assumption) ?_; rotate_left; (focus (intro w hSw; (try dsimp only at hSw); go_simp; try with_reducible rfl)); (try simp only [Act.put, sA, sB, sC])
  refine wpAnyH_take (i := 14) (v := ?_) (by simp only [gA, gB, gC]; rfl) (by kernel_rfl) (by kernel_rfl) (by kernel_rfl) (by exact fun _ _ _ h => h) (Or.inl ⟨by rfl, ?_⟩) (by assumption) ?_; rotate_left; (focus (intro w hSw; (try dsimp only at hSw); go_simp; try with_reducible rfl)); (try simp only [Act.put, sA, sB, sC])
  refine wpAnyH_ready (rs := [15]) (by kernel_rfl) (by simp) ?_
  refine AllReadyH.cons (by simp only [gA, gB, gC]; rfl) (fun K hK => ?_) AllReadyH.nil
  go_simp
  refine (mwr_any bm (.slice a m.length cap) is s o x n q.s q.f c.a hn w0 hN4).mono ?_
  rintro e w1 ⟨⟨rr, rfl⟩, hn1, hot, hbl⟩
  have hk0 := hbl 0 w0 (Nat.zero_le _) (Below.refl _ _)
  have hO1 : Sole bm w w1 := ⟨hk0.os.trans hB4.os, hk0.tape.trans hB4.tape, hk0.output.trans hB4.output, Nat.le_trans hB4.size hk0.size, fun j hj hjn => (hot j hjn).trans (hB4.block j hj)⟩
  have hS1 : SW w.heap.size bx q c.a (memI bm) w1 := ⟨⟨hq4.1.same (hot _ (by omega)), Nat.lt_of_lt_of_le hq4.2 (hbl 0 w0 (Nat.zero_le _) (Below.refl _ _)).size⟩, (World.cell?_of_block (a := ⟨bx, 3, none⟩) (hot bx hne)).trans hS0.a, (World.cell?_of_block (a := ⟨bx, 18, none⟩) (hot bx hne)).trans hS0.m⟩
  refine hK.out _ _ (hS1) ?_
  clear hHeld hK
  intro hHeld
  (try simp only [Act.put, sA, sB, sC])
  refine wpAnyH_done (by kernel_rfl) ?_ _
  go_wp2_with fail
  refine bodyPost_end (v := .tuple #[]) (by simp [results, Try.results53, go_sem]) rfl ?_
  exact .inr ⟨hEE.out, ⟨_, rfl⟩, hn1, hO1⟩
end Go.Proofs.Ytinibccphecdfaa

/-! PACKAGE isa AS IT LANDED: words' parts (put, get, mask), check, Encode, Decode, pointers. -/
namespace Go.Proofs.Ytinibccphecdfaa
open Go.RowKit
set_option maxRecDepth 8000
set_option linter.unusedSimpArgs false
set_option linter.unusedVariables false

theorem mask3_any (w : World) : Calls Try.prog 100 #[.int .u64 3] w fun e w' => e = .returned (.int .u64 7) ∧ w' = w := by
  go_enter Try.func100, Try.ntmps100
  go_wp2
  go_ret
  exact ⟨rfl, rfl⟩
theorem mask8_any (w : World) : Calls Try.prog 100 #[.int .u64 8] w fun e w' => e = .returned (.int .u64 255) ∧ w' = w := by
  go_enter Try.func100, Try.ntmps100
  go_wp2
  go_ret
  exact ⟨rfl, rfl⟩
theorem mask16_any (w : World) : Calls Try.prog 100 #[.int .u64 16] w fun e w' => e = .returned (.int .u64 65535) ∧ w' = w := by
  go_enter Try.func100, Try.ntmps100
  go_wp2
  go_ret
  exact ⟨rfl, rfl⟩
theorem mask32_any (w : World) : Calls Try.prog 100 #[.int .u64 32] w fun e w' => e = .returned (.int .u64 4294967295) ∧ w' = w := by
  go_enter Try.func100, Try.ntmps100
  go_wp2
  go_ret
  exact ⟨rfl, rfl⟩
set_option maxHeartbeats 1000000 in
theorem put56_8 (n : Int) (h0 : 0 ≤ n) (h1 : n ≤ 22) (w : World) : Calls Try.prog 91 #[.int .i64 n, .int .u64 56, .int .u64 8] w fun e w' => e = .returned (.int .i64 (n * 72057594037927936)) ∧ Below w.heap.size w w' := by
  obtain ⟨u, hu⟩ : ∃ u, IntKind.u64.wrap n = u := ⟨_, rfl⟩
  obtain ⟨m, hm⟩ : ∃ m, u % 256 = m := ⟨_, rfl⟩
  have hA : bits .and .u64 u 255 = m := by rw [and_u64 8 (by decide) 256 255 (by decide) (by decide), hm]
  have hn : n % 256 = m := by rw [← hm, ← hu, IntKind.wrap_u64]; omega
  have hb : IntKind.u64.wrap (m * 72057594037927936) = m * 72057594037927936 := by rw [IntKind.wrap_u64]; omega
  have hc : IntKind.i64.wrap (m * 72057594037927936) = m * 72057594037927936 := by rw [IntKind.wrap_i64]; omega
  have hr : Aside ((n * 72057594037927936) = m * 72057594037927936) := by show _ = _; omega
  clear hm hn
  go_enter Try.func91, Try.ntmps91
  go_wp2_with (first | (go_at_call 100; refine (mask8_any _).mono ?_; rintro e w' ⟨rfl, rfl⟩) | fail)
  go_ret
  exact ⟨by rw [hr.out]; rfl, Below.refl _ _⟩
set_option maxHeartbeats 1000000 in
theorem put48_8 (n : Int) (w : World) : Calls Try.prog 91 #[.int .i64 n, .int .u64 48, .int .u64 8] w fun e w' => e = .returned (.int .i64 (n % 256 * 281474976710656)) ∧ Below w.heap.size w w' := by
  obtain ⟨u, hu⟩ : ∃ u, IntKind.u64.wrap n = u := ⟨_, rfl⟩
  obtain ⟨m, hm⟩ : ∃ m, u % 256 = m := ⟨_, rfl⟩
  have hA : bits .and .u64 u 255 = m := by rw [and_u64 8 (by decide) 256 255 (by decide) (by decide), hm]
  have hn : n % 256 = m := by rw [← hm, ← hu, IntKind.wrap_u64]; omega
  have hb : IntKind.u64.wrap (m * 281474976710656) = m * 281474976710656 := by rw [IntKind.wrap_u64]; omega
  have hc : IntKind.i64.wrap (m * 281474976710656) = m * 281474976710656 := by rw [IntKind.wrap_i64]; omega
  have hr : Aside ((n % 256 * 281474976710656) = m * 281474976710656) := by show _ = _; omega
  clear hm hn
  go_enter Try.func91, Try.ntmps91
  go_wp2_with (first | (go_at_call 100; refine (mask8_any _).mono ?_; rintro e w' ⟨rfl, rfl⟩) | fail)
  go_ret
  exact ⟨by rw [hr.out]; rfl, Below.refl _ _⟩
set_option maxHeartbeats 1000000 in
theorem put0_32 (n : Int) (w : World) : Calls Try.prog 91 #[.int .i64 n, .int .u64 0, .int .u64 32] w fun e w' => e = .returned (.int .i64 (n % 4294967296)) ∧ Below w.heap.size w w' := by
  obtain ⟨u, hu⟩ : ∃ u, IntKind.u64.wrap n = u := ⟨_, rfl⟩
  obtain ⟨m, hm⟩ : ∃ m, u % 4294967296 = m := ⟨_, rfl⟩
  have hA : bits .and .u64 u 4294967295 = m := by rw [and_u64 32 (by decide) 4294967296 4294967295 (by decide) (by decide), hm]
  have hn : n % 4294967296 = m := by rw [← hm, ← hu, IntKind.wrap_u64]; omega
  have hb : IntKind.u64.wrap (m) = m := by rw [IntKind.wrap_u64]; omega
  have hc : IntKind.i64.wrap (m) = m := by rw [IntKind.wrap_i64]; omega
  have hr : Aside ((n % 4294967296) = m) := by show _ = _; omega
  clear hm hn
  go_enter Try.func91, Try.ntmps91
  go_wp2_with (first | (go_at_call 100; refine (mask32_any _).mono ?_; rintro e w' ⟨rfl, rfl⟩) | fail)
  go_ret
  exact ⟨by rw [hr.out]; rfl, Below.refl _ _⟩
set_option maxHeartbeats 1000000 in
theorem put48_3 (n : Int) (w : World) : Calls Try.prog 91 #[.int .i64 n, .int .u64 48, .int .u64 3] w fun e w' => e = .returned (.int .i64 (n % 8 * 281474976710656)) ∧ Below w.heap.size w w' := by
  obtain ⟨u, hu⟩ : ∃ u, IntKind.u64.wrap n = u := ⟨_, rfl⟩
  obtain ⟨m, hm⟩ : ∃ m, u % 8 = m := ⟨_, rfl⟩
  have hA : bits .and .u64 u 7 = m := by rw [and_u64 3 (by decide) 8 7 (by decide) (by decide), hm]
  have hn : n % 8 = m := by rw [← hm, ← hu, IntKind.wrap_u64]; omega
  have hb : IntKind.u64.wrap (m * 281474976710656) = m * 281474976710656 := by rw [IntKind.wrap_u64]; omega
  have hc : IntKind.i64.wrap (m * 281474976710656) = m * 281474976710656 := by rw [IntKind.wrap_i64]; omega
  have hr : Aside ((n % 8 * 281474976710656) = m * 281474976710656) := by show _ = _; omega
  clear hm hn
  go_enter Try.func91, Try.ntmps91
  go_wp2_with (first | (go_at_call 100; refine (mask3_any _).mono ?_; rintro e w' ⟨rfl, rfl⟩) | fail)
  go_ret
  exact ⟨by rw [hr.out]; rfl, Below.refl _ _⟩
set_option maxHeartbeats 1000000 in
theorem put32_16 (n : Int) (w : World) : Calls Try.prog 91 #[.int .i64 n, .int .u64 32, .int .u64 16] w fun e w' => e = .returned (.int .i64 (n % 65536 * 4294967296)) ∧ Below w.heap.size w w' := by
  obtain ⟨u, hu⟩ : ∃ u, IntKind.u64.wrap n = u := ⟨_, rfl⟩
  obtain ⟨m, hm⟩ : ∃ m, u % 65536 = m := ⟨_, rfl⟩
  have hA : bits .and .u64 u 65535 = m := by rw [and_u64 16 (by decide) 65536 65535 (by decide) (by decide), hm]
  have hn : n % 65536 = m := by rw [← hm, ← hu, IntKind.wrap_u64]; omega
  have hb : IntKind.u64.wrap (m * 4294967296) = m * 4294967296 := by rw [IntKind.wrap_u64]; omega
  have hc : IntKind.i64.wrap (m * 4294967296) = m * 4294967296 := by rw [IntKind.wrap_i64]; omega
  have hr : Aside ((n % 65536 * 4294967296) = m * 4294967296) := by show _ = _; omega
  clear hm hn
  go_enter Try.func91, Try.ntmps91
  go_wp2_with (first | (go_at_call 100; refine (mask16_any _).mono ?_; rintro e w' ⟨rfl, rfl⟩) | fail)
  go_ret
  exact ⟨by rw [hr.out]; rfl, Below.refl _ _⟩
set_option maxHeartbeats 1000000 in
theorem get56_8 (x : Int) (w : World) : Calls Try.prog 96 #[.int .i64 x, .int .u64 56, .int .u64 8] w fun e w' => e = .returned (.int .i64 (wOp x)) ∧ w' = w := by
  obtain ⟨u, hu⟩ : ∃ u, IntKind.u64.wrap x = u := ⟨_, rfl⟩
  have hu' : u64 x = u := by rw [← hu, IntKind.wrap_u64]; rfl
  have u0 : 0 ≤ u ∧ u < 18446744073709551616 := by rw [← hu']; unfold u64; omega
  obtain ⟨m, hm⟩ : ∃ m, (u / 72057594037927936) % 256 = m := ⟨_, rfl⟩
  have hA : bits .and .u64 (u / 72057594037927936) 255 = m := by rw [and_u64 8 (by decide) 256 255 (by decide) (by decide), hm]
  have hc : IntKind.i64.wrap m = m := by rw [IntKind.wrap_i64]; omega
  have hr : Aside (wOp x = m) := by show _ = _; rw [← hm]; (try unfold wOp); (try unfold wP); (try unfold wLow); (try unfold wMid); rw [hu']; (try omega)
  clear hm hu' u0
  go_enter Try.func96, Try.ntmps96
  go_wp2_with (first | (go_at_call 100; refine (mask8_any _).mono ?_; rintro e w' ⟨rfl, rfl⟩) | fail)
  go_ret
  exact ⟨by rw [hr.out]; rfl, rfl⟩
set_option maxHeartbeats 1000000 in
theorem get48_8 (x : Int) (w : World) : Calls Try.prog 96 #[.int .i64 x, .int .u64 48, .int .u64 8] w fun e w' => e = .returned (.int .i64 (wP x)) ∧ w' = w := by
  obtain ⟨u, hu⟩ : ∃ u, IntKind.u64.wrap x = u := ⟨_, rfl⟩
  have hu' : u64 x = u := by rw [← hu, IntKind.wrap_u64]; rfl
  have u0 : 0 ≤ u ∧ u < 18446744073709551616 := by rw [← hu']; unfold u64; omega
  obtain ⟨m, hm⟩ : ∃ m, (u / 281474976710656) % 256 = m := ⟨_, rfl⟩
  have hA : bits .and .u64 (u / 281474976710656) 255 = m := by rw [and_u64 8 (by decide) 256 255 (by decide) (by decide), hm]
  have hc : IntKind.i64.wrap m = m := by rw [IntKind.wrap_i64]; omega
  have hr : Aside (wP x = m) := by show _ = _; rw [← hm]; (try unfold wOp); (try unfold wP); (try unfold wLow); (try unfold wMid); rw [hu']; (try omega)
  clear hm hu' u0
  go_enter Try.func96, Try.ntmps96
  go_wp2_with (first | (go_at_call 100; refine (mask8_any _).mono ?_; rintro e w' ⟨rfl, rfl⟩) | fail)
  go_ret
  exact ⟨by rw [hr.out]; rfl, rfl⟩
set_option maxHeartbeats 1000000 in
theorem get0_32 (x : Int) (w : World) : Calls Try.prog 96 #[.int .i64 x, .int .u64 0, .int .u64 32] w fun e w' => e = .returned (.int .i64 (wLow x)) ∧ w' = w := by
  obtain ⟨u, hu⟩ : ∃ u, IntKind.u64.wrap x = u := ⟨_, rfl⟩
  have hu' : u64 x = u := by rw [← hu, IntKind.wrap_u64]; rfl
  have u0 : 0 ≤ u ∧ u < 18446744073709551616 := by rw [← hu']; unfold u64; omega
  obtain ⟨m, hm⟩ : ∃ m, u % 4294967296 = m := ⟨_, rfl⟩
  have hA : bits .and .u64 u 4294967295 = m := by rw [and_u64 32 (by decide) 4294967296 4294967295 (by decide) (by decide), hm]
  have hc : IntKind.i64.wrap m = m := by rw [IntKind.wrap_i64]; omega
  have hr : Aside (wLow x = m) := by show _ = _; rw [← hm]; (try unfold wOp); (try unfold wP); (try unfold wLow); (try unfold wMid); rw [hu']; (try omega)
  clear hm hu' u0
  go_enter Try.func96, Try.ntmps96
  go_wp2_with (first | (go_at_call 100; refine (mask32_any _).mono ?_; rintro e w' ⟨rfl, rfl⟩) | fail)
  go_ret
  exact ⟨by rw [hr.out]; rfl, rfl⟩
set_option maxHeartbeats 1000000 in
theorem get48_3 (x : Int) (w : World) : Calls Try.prog 96 #[.int .i64 x, .int .u64 48, .int .u64 3] w fun e w' => e = .returned (.int .i64 ((u64 x / 281474976710656 % 8))) ∧ w' = w := by
  obtain ⟨u, hu⟩ : ∃ u, IntKind.u64.wrap x = u := ⟨_, rfl⟩
  have hu' : u64 x = u := by rw [← hu, IntKind.wrap_u64]; rfl
  have u0 : 0 ≤ u ∧ u < 18446744073709551616 := by rw [← hu']; unfold u64; omega
  obtain ⟨m, hm⟩ : ∃ m, (u / 281474976710656) % 8 = m := ⟨_, rfl⟩
  have hA : bits .and .u64 (u / 281474976710656) 7 = m := by rw [and_u64 3 (by decide) 8 7 (by decide) (by decide), hm]
  have hc : IntKind.i64.wrap m = m := by rw [IntKind.wrap_i64]; omega
  have hr : Aside ((u64 x / 281474976710656 % 8) = m) := by show _ = _; rw [← hm]; (try unfold wOp); (try unfold wP); (try unfold wLow); (try unfold wMid); rw [hu']; (try omega)
  clear hm hu' u0
  go_enter Try.func96, Try.ntmps96
  go_wp2_with (first | (go_at_call 100; refine (mask3_any _).mono ?_; rintro e w' ⟨rfl, rfl⟩) | fail)
  go_ret
  exact ⟨by rw [hr.out]; rfl, rfl⟩
set_option maxHeartbeats 1000000 in
theorem get32_16 (x : Int) (w : World) : Calls Try.prog 96 #[.int .i64 x, .int .u64 32, .int .u64 16] w fun e w' => e = .returned (.int .i64 (wMid x)) ∧ w' = w := by
  obtain ⟨u, hu⟩ : ∃ u, IntKind.u64.wrap x = u := ⟨_, rfl⟩
  have hu' : u64 x = u := by rw [← hu, IntKind.wrap_u64]; rfl
  have u0 : 0 ≤ u ∧ u < 18446744073709551616 := by rw [← hu']; unfold u64; omega
  obtain ⟨m, hm⟩ : ∃ m, (u / 4294967296) % 65536 = m := ⟨_, rfl⟩
  have hA : bits .and .u64 (u / 4294967296) 65535 = m := by rw [and_u64 16 (by decide) 65536 65535 (by decide) (by decide), hm]
  have hc : IntKind.i64.wrap m = m := by rw [IntKind.wrap_i64]; omega
  have hr : Aside (wMid x = m) := by show _ = _; rw [← hm]; (try unfold wOp); (try unfold wP); (try unfold wLow); (try unfold wMid); rw [hu']; (try omega)
  clear hm hu' u0
  go_enter Try.func96, Try.ntmps96
  go_wp2_with (first | (go_at_call 100; refine (mask16_any _).mono ?_; rintro e w' ⟨rfl, rfl⟩) | fail)
  go_ret
  exact ⟨by rw [hr.out]; rfl, rfl⟩
set_option maxRecDepth 8000 in
set_option maxHeartbeats 4000000 in
theorem icheck_any (i : Ins) (w : World) : Calls Try.prog 97 #[i.v] w fun e w' => e = .returned (.int .i64 (insE i)) ∧ Below w.heap.size w w' := by
  have hb0 := blkl_alloc w (ins3 i).toArray 64
  have hB0 := alloc_below w (.cells (ins3 i).toArray 64)
  replace hb0 : BlkL w.heap.size (ins3 i) (w.alloc (.cells (ins3 i).toArray 64)) := hb0
  have z0 := (hb0.1 0 _ rfl).1
  have z1 := (hb0.1 1 _ rfl).1
  have z2 := (hb0.1 2 _ rfl).1
  clear hb0
  by_cases h0 : 0 ≤ i.o
  rotate_left
  · have hE : insE i = 3 := by
      unfold insE
      rw [if_pos (by omega)]
    have b0 : i.o < 0 := by omega
    clear h0
    replace hE : Aside (insE i = 3) := hE
    go_enter Try.func97, Try.ntmps97
    go_upto_region 1 with fail
    generalize w.alloc (.cells #[.int .i64 i.o, .int .i64 i.p, .int .i64 i.n] 64) = W0 at *
    go_wp2_with fail
    go_ret
    exact ⟨by rw [hE.out]; rfl, hB0⟩
  have g0 : ¬ i.o < 0 := by omega
  by_cases h1 : i.o ≤ 22
  rotate_left
  · have hE : insE i = 3 := by
      unfold insE
      rw [if_pos (by omega)]
    have b1 : 23 ≤ i.o := by omega
    clear h1
    replace hE : Aside (insE i = 3) := hE
    go_enter Try.func97, Try.ntmps97
    go_upto_region 1 with fail
    generalize w.alloc (.cells #[.int .i64 i.o, .int .i64 i.p, .int .i64 i.n] 64) = W0 at *
    go_wp2_with fail
    go_ret
    exact ⟨by rw [hE.out]; rfl, hB0⟩
  have g1 : ¬ 23 ≤ i.o := by omega
  by_cases h2 : 0 ≤ i.p
  rotate_left
  · have hE : insE i = 1 := by
      unfold insE
      rw [if_neg (by omega), if_pos (by omega)]
    have b2 : i.p < 0 := by omega
    clear h2
    replace hE : Aside (insE i = 1) := hE
    go_enter Try.func97, Try.ntmps97
    go_upto_region 1 with fail
    generalize w.alloc (.cells #[.int .i64 i.o, .int .i64 i.p, .int .i64 i.n] 64) = W0 at *
    go_wp2_with fail
    go_ret
    exact ⟨by rw [hE.out]; rfl, hB0⟩
  have g2 : ¬ i.p < 0 := by omega
  by_cases h3 : i.p ≤ 3
  rotate_left
  · have hE : insE i = 1 := by
      unfold insE
      rw [if_neg (by omega), if_pos (by omega)]
    have b3 : 3 < i.p := by omega
    clear h3
    replace hE : Aside (insE i = 1) := hE
    go_enter Try.func97, Try.ntmps97
    go_upto_region 1 with fail
    generalize w.alloc (.cells #[.int .i64 i.o, .int .i64 i.p, .int .i64 i.n] 64) = W0 at *
    go_wp2_with fail
    go_ret
    exact ⟨by rw [hE.out]; rfl, hB0⟩
  have g3 : ¬ 3 < i.p := by omega
  by_cases h4 : -2147483648 ≤ i.n
  rotate_left
  · have hE : insE i = 1 := by
      unfold insE
      rw [if_neg (by omega), if_pos (by omega)]
    have b4 : i.n < -2147483648 := by omega
    clear h4
    replace hE : Aside (insE i = 1) := hE
    go_enter Try.func97, Try.ntmps97
    go_upto_region 1 with fail
    generalize w.alloc (.cells #[.int .i64 i.o, .int .i64 i.p, .int .i64 i.n] 64) = W0 at *
    go_wp2_with fail
    go_ret
    exact ⟨by rw [hE.out]; rfl, hB0⟩
  have g4 : ¬ i.n < -2147483648 := by omega
  by_cases h5 : i.n ≤ 2147483647
  rotate_left
  · have hE : insE i = 1 := by
      unfold insE
      rw [if_neg (by omega), if_pos (by omega)]
    have b5 : 2147483647 < i.n := by omega
    clear h5
    replace hE : Aside (insE i = 1) := hE
    go_enter Try.func97, Try.ntmps97
    go_upto_region 1 with fail
    generalize w.alloc (.cells #[.int .i64 i.o, .int .i64 i.p, .int .i64 i.n] 64) = W0 at *
    go_wp2_with fail
    go_ret
    exact ⟨by rw [hE.out]; rfl, hB0⟩
  have g5 : ¬ 2147483647 < i.n := by omega
  have hE : insE i = 0 := insE_zero.2 ⟨⟨h0, h1⟩, h2, h3, h4, h5⟩
  replace hE : Aside (insE i = 0) := hE
  go_enter Try.func97, Try.ntmps97
  go_upto_region 1 with fail
  generalize w.alloc (.cells #[.int .i64 i.o, .int .i64 i.p, .int .i64 i.n] 64) = W0 at *
  go_wp2_with fail
  go_ret
  exact ⟨by rw [hE.out]; rfl, hB0⟩
end Go.Proofs.Ytinibccphecdfaa

/-! PACKAGE isa AS IT LANDED: words' parts (put, get, mask), check, Encode, Decode, pointers. -/
namespace Go.Proofs.Ytinibccphecdfaa
open Go.RowKit
set_option maxRecDepth 8000
set_option linter.unusedSimpArgs false
set_option linter.unusedVariables false

set_option maxRecDepth 8000 in
set_option maxHeartbeats 4000000 in
theorem iencp_any (p : Ptr) (w : World) : Calls Try.prog 60 #[p.v] w fun e w' => e = .returned (.int .i64 (ptrW p)) ∧ Below w.heap.size w w' := by
  have hb1 := blkl_alloc w (ptr3 p).toArray 24
  have hB0 := alloc_below w (.cells (ptr3 p).toArray 24)
  replace hb1 : BlkL w.heap.size (ptr3 p) (w.alloc (.cells (ptr3 p).toArray 24)) := hb1
  have hW : Aside (ptrW p = bits .or .i64 (bits .or .i64 (p.r % 8 * 281474976710656) (p.s % 65536 * 4294967296)) (p.f % 4294967296)) := by
    show ptrW p = _
    rw [or_ptr (by omega) (by omega) (by omega) (by omega)]
    rfl
  go_enter Try.func60, Try.ntmps60
  go_upto_region 1 with fail
  generalize w.alloc (.cells #[.int .i64 p.s, .int .i64 p.f, .int .i64 p.r] 24) = Z at *
  have hS0 : Below Z.heap.size Z Z.drew := (Below.refl _ _).drew
  refine wp_region_held_drew (S := (fun W => Below Z.heap.size Z W)) (by kernel_rfl) (by exact hS0) ?_
  intro hHeld
  generalize Z.drew = w0 at *
  refine wpAnyH_take (i := 0) (v := ?_) (by simp only [gA, gB, gC]; rfl) (by kernel_rfl) (by kernel_rfl) (by kernel_rfl) (by exact fun _ _ _ h => h) (Or.inl ⟨by rfl, ?_⟩) (by assumption) ?_; rotate_left; (focus (intro w hSw; (try dsimp only at hSw); go_simp; try with_reducible rfl)); (try simp only [Act.put, sA, sB, sC])
  refine wpAnyH_take (i := 1) (v := _) (by simp only [gA, gB, gC]; rfl) (by kernel_rfl) (by kernel_rfl) (by kernel_rfl) (by exact fun _ _ _ h => h) (yields_cellI (by rfl) _ rfl ⟨w.heap.size, 2, none⟩ rfl (.int .i64 p.r) (fun _ q => ((stab_blk _ _ _ _ hb1 q).1 2 _ rfl).1) intI_load) (by assumption) ?_; (try simp only [Act.put, sA, sB, sC])
  refine wpAnyH_take (i := 3) (v := ?_) (by simp only [gA, gB, gC]; rfl) (by kernel_rfl) (by kernel_rfl) (by kernel_rfl) (by exact fun _ _ _ h => h) (Or.inl ⟨by rfl, ?_⟩) (by assumption) ?_; rotate_left; (focus (intro w hSw; (try dsimp only at hSw); go_simp; try with_reducible rfl)); (try simp only [Act.put, sA, sB, sC])
  refine wpAnyH_take (i := 4) (v := _) (by simp only [gA, gB, gC]; rfl) (by kernel_rfl) (by kernel_rfl) (by kernel_rfl) (by exact fun _ _ _ h => h) (yields_cellI (by rfl) _ rfl ⟨w.heap.size, 0, none⟩ rfl (.int .i64 p.s) (fun _ q => ((stab_blk _ _ _ _ hb1 q).1 0 _ rfl).1) intI_load) (by assumption) ?_; (try simp only [Act.put, sA, sB, sC])
  refine wpAnyH_take (i := 7) (v := ?_) (by simp only [gA, gB, gC]; rfl) (by kernel_rfl) (by kernel_rfl) (by kernel_rfl) (by exact fun _ _ _ h => h) (Or.inl ⟨by rfl, ?_⟩) (by assumption) ?_; rotate_left; (focus (intro w hSw; (try dsimp only at hSw); go_simp; try with_reducible rfl)); (try simp only [Act.put, sA, sB, sC])
  refine wpAnyH_take (i := 8) (v := _) (by simp only [gA, gB, gC]; rfl) (by kernel_rfl) (by kernel_rfl) (by kernel_rfl) (by exact fun _ _ _ h => h) (yields_cellI (by rfl) _ rfl ⟨w.heap.size, 1, none⟩ rfl (.int .i64 p.f) (fun _ q => ((stab_blk _ _ _ _ hb1 q).1 1 _ rfl).1) intI_load) (by assumption) ?_; (try simp only [Act.put, sA, sB, sC])
  refine wpAnyH_ready (rs := [2]) (by kernel_rfl) (by simp) ?_
  refine AllReadyH.cons (by simp only [gA, gB, gC]; rfl) (fun K hK => ?_) AllReadyH.nil
  go_simp
  go_at_call 91
  refine (put48_3 p.r w0).mono ?_
  rintro e w1 ⟨rfl, hb⟩
  have hS1 := Below.then hS0 hb
  clear hb
  refine hK.out _ _ (by exact hS1) ?_
  clear hHeld hK
  intro hHeld
  (try simp only [Act.put, sA, sB, sC])
  refine wpAnyH_ready (rs := [5]) (by kernel_rfl) (by simp) ?_
  refine AllReadyH.cons (by simp only [gA, gB, gC]; rfl) (fun K hK => ?_) AllReadyH.nil
  go_simp
  go_at_call 91
  refine (put32_16 p.s w1).mono ?_
  rintro e w2 ⟨rfl, hb⟩
  have hS2 := Below.then hS1 hb
  clear hb
  refine hK.out _ _ (by exact hS2) ?_
  clear hHeld hK
  intro hHeld
  (try simp only [Act.put, sA, sB, sC])
  refine wpAnyH_take (i := 6) (v := ?_) (by simp only [gA, gB, gC]; rfl) (by kernel_rfl) (by kernel_rfl) (by kernel_rfl) (by exact fun _ _ _ h => h) (Or.inl ⟨by rfl, ?_⟩) (by assumption) ?_; rotate_left; (focus (intro w hSw; (try dsimp only at hSw); go_simp; try with_reducible rfl)); (try simp only [Act.put, sA, sB, sC])
  refine wpAnyH_ready (rs := [9]) (by kernel_rfl) (by simp) ?_
  refine AllReadyH.cons (by simp only [gA, gB, gC]; rfl) (fun K hK => ?_) AllReadyH.nil
  go_simp
  go_at_call 91
  refine (put0_32 p.f w2).mono ?_
  rintro e w3 ⟨rfl, hb⟩
  have hS3 := Below.then hS2 hb
  clear hb
  refine hK.out _ _ (by exact hS3) ?_
  clear hHeld hK
  intro hHeld
  (try simp only [Act.put, sA, sB, sC])
  refine wpAnyH_take (i := 10) (v := ?_) (by simp only [gA, gB, gC]; rfl) (by kernel_rfl) (by kernel_rfl) (by kernel_rfl) (by exact fun _ _ _ h => h) (Or.inl ⟨by rfl, ?_⟩) (by assumption) ?_; rotate_left; (focus (intro w hSw; (try dsimp only at hSw); go_simp; try with_reducible rfl)); (try simp only [Act.put, sA, sB, sC])
  refine wpAnyH_take (i := 11) (v := ?_) (by simp only [gA, gB, gC]; rfl) (by kernel_rfl) (by kernel_rfl) (by kernel_rfl) (by exact fun _ _ _ h => h) (Or.inl ⟨by rfl, ?_⟩) (by assumption) ?_; rotate_left; (focus (intro w hSw; (try dsimp only at hSw); go_simp; try with_reducible rfl)); (try simp only [Act.put, sA, sB, sC])
  refine wpAnyH_done (by kernel_rfl) ?_ _
  have hfin := Below.then hB0 hS3
  go_wp2_with fail
  go_ret
  exact ⟨by rw [hW.out]; rfl, hfin⟩
set_option maxRecDepth 8000 in
set_option maxHeartbeats 4000000 in
theorem idecode_any (x : Int) (hx : fit64 x) (w : World) : Calls Try.prog 67 #[.int .i64 x] w fun e w' => e = .returned (.tuple #[(decI x).v, .int .i64 (decE x)]) ∧ Below w.heap.size w w' := by
  have hund := Try.underlying64
  have hsz : (Try.prog.info? 64).map (·.size) = some 3 := by kernel_rfl
  have g1 := get56_8 x
  have g2 := get48_8 x
  have g3 := get0_32 x
  have g4 := get32_16 x
  have hA5 : IntKind.i32.wrap (wLow x) = wN x := by
    rw [IntKind.wrap_i32]
    have : 0 ≤ wLow x ∧ wLow x < 4294967296 := by unfold wLow; omega
    unfold wN
    split <;> omega
  have hN : -2147483648 ≤ wN x ∧ wN x ≤ 2147483647 := by
    have : 0 ≤ wLow x ∧ wLow x < 4294967296 := by unfold wLow; omega
    unfold wN
    split <;> omega
  have hP0 : 0 ≤ wP x := by unfold wP; omega
  have hO0 : 0 ≤ wOp x := by unfold wOp u64; omega
  have hA6 : IntKind.i64.wrap (wN x) = wN x := by rw [IntKind.wrap_i64]; omega
  have hDE : decE x = if 22 < wOp x then 3 else if 3 < wP x then 1 else if wMid x ≠ 0 then 11 else 0 := rfl
  have hDI : decI x = if decE x = 0 then ⟨wOp x, wP x, wN x⟩ else ⟨0, 0, 0⟩ := rfl
  obtain ⟨J, hJ⟩ : ∃ J, decI x = J := ⟨_, rfl⟩
  obtain ⟨G, hG⟩ : ∃ G, decE x = G := ⟨_, rfl⟩
  rw [hJ, hG]
  rw [hG] at hDE
  rw [hJ, hG] at hDI
  generalize wOp x = op at *
  generalize wP x = pp at *
  generalize wN x = nn at *
  generalize wLow x = low at *
  generalize wMid x = mid at *
  have hE : insE ⟨op, pp, nn⟩ = if 22 < op then 3 else if 3 < pp then 1 else 0 := by
    unfold insE
    simp only
    repeat' split
    all_goals omega
  have kc := icheck_any ⟨op, pp, nn⟩
  obtain ⟨E, hEE⟩ : ∃ E, insE ⟨op, pp, nn⟩ = E := ⟨_, rfl⟩
  rw [hEE] at kc hE
  replace hE : Aside (E = if 22 < op then 3 else if 3 < pp then 1 else 0) := hE
  replace hDE : Aside (G = if 22 < op then 3 else if 3 < pp then 1 else if mid ≠ 0 then 11 else 0) := hDE
  replace hDI : Aside (J = if G = 0 then ⟨op, pp, nn⟩ else ⟨0, 0, 0⟩) := hDI
  clear hJ hG hEE hN hP0 hO0
  have hb0 := blkl_alloc w (ins3 ⟨0, 0, 0⟩).toArray 64
  have hB0 := alloc_below w (.cells (ins3 ⟨0, 0, 0⟩).toArray 64)
  replace hb0 : BlkL w.heap.size (ins3 ⟨0, 0, 0⟩) (w.alloc (.cells (ins3 ⟨0, 0, 0⟩).toArray 64)) := hb0
  go_enter Try.func67, Try.ntmps67
  go_upto_region 1 with fail
  generalize w.alloc (.cells #[.int .i64 0, .int .i64 0, .int .i64 0] 64) = W0 at *
  go_wp2_with fail
  refine (g1 _).mono ?_
  rintro e W' ⟨rfl, hq⟩
  replace hq := hq.symm
  subst hq
  go_wp2_with fail
  refine (g2 _).mono ?_
  rintro e W' ⟨rfl, hq⟩
  replace hq := hq.symm
  subst hq
  go_wp2_with fail
  refine (g3 _).mono ?_
  rintro e W' ⟨rfl, hq⟩
  replace hq := hq.symm
  subst hq
  have hb1 := blkl_alloc W0 (ins3 ⟨op, pp, nn⟩).toArray 64
  have hB1 := alloc_below W0 (.cells (ins3 ⟨op, pp, nn⟩).toArray 64)
  replace hb1 : BlkL W0.heap.size (ins3 ⟨op, pp, nn⟩) (W0.alloc (.cells (ins3 ⟨op, pp, nn⟩).toArray 64)) := hb1
  have hb01 := stab_blk _ _ _ _ hb0 hB1
  replace hB1 := Below.then hB0 hB1
  go_upto_region 2 with fail
  generalize W0.alloc (.cells #[.int .i64 op, .int .i64 pp, .int .i64 nn] 64) = W1 at *
  generalize W0.heap.size = g at *
  have hr1 := hb1.range
  go_wp2_with (first | (refine wpList_load_row rfl _ rfl g rfl (ins3 ⟨op, pp, nn⟩) hr1 hund rfl hsz ?_) | fail)
  refine (kc W1).mono ?_
  rintro e W2 ⟨rfl, hB2⟩
  have hb2 := stab_blk _ _ _ _ hb1 hB2
  have hb02 := stab_blk _ _ _ _ hb01 hB2
  replace hB2 := Below.then hB1 hB2
  clear hr1 hb0 hb1 hb01 hB1 hB0 kc g1 g2 g3
  by_cases hE0 : E = 0
  rotate_left
  · have hn : (E != 0) = true := by simpa using hE0
    have hGE : Aside (G = E ∧ J = ⟨0, 0, 0⟩) := by
      have e1 := hE.out
      have e2 := hDE.out
      have e3 := hDI.out
      have : G = E := by
        rw [e1] at hE0 ⊢
        rw [e2]
        split
        · rfl
        · split
          · rfl
          · rename_i c1 c2
            rw [if_neg c1, if_neg c2] at hE0
            exact absurd rfl hE0
      refine ⟨this, ?_⟩
      rw [e3, if_neg (by rw [this]; exact hE0)]
    obtain ⟨W3, hW3, hth3, hb3, hk3⟩ := put_box hb02 ⟨0, 0, 0⟩
    have hB3 := hk3 _ _ (Nat.le_refl _) hB2
    have hr3 := hb3.range
    clear hE0 hk3
    go_wp2_with (first | (refine wpList_store_row rfl _ _ rfl w.heap.size rfl (ins3 ⟨0, 0, 0⟩) rfl hth3 hsz (ins3_one _) hW3 ?_) | fail)
    refine bodyPost_ret (v := .tuple #[.agg (ins3 ⟨0, 0, 0⟩).toArray, .int .i64 E]) (results_row2 rfl _ _ w.heap.size rfl (.int .i64 E) rfl (ins3 ⟨0, 0, 0⟩) hr3 hund rfl hsz) rfl ?_
    exact ⟨by rw [hGE.out.1, hGE.out.2], hB3⟩
  subst hE0
  have hcc : ¬ 22 < op ∧ ¬ 3 < pp := by
    have e1 := hE.out
    constructor
    · intro c
      rw [if_pos c] at e1
      exact absurd e1 (by decide)
    · intro c
      by_cases c1 : 22 < op
      · rw [if_pos c1] at e1
        exact absurd e1 (by decide)
      · rw [if_neg c1, if_pos c] at e1
        exact absurd e1 (by decide)
  have hG : Aside (G = if mid ≠ 0 then 11 else 0) := by
    show _ = _
    rw [hDE.out, if_neg hcc.1, if_neg hcc.2]
  clear hcc hDE hE
  go_wp2_with fail
  refine (g4 W2).mono ?_
  rintro e W' ⟨rfl, hq⟩
  replace hq := hq.symm
  subst hq
  clear g4
  by_cases hm : mid = 0
  rotate_left
  · have hGE : Aside (G = 11 ∧ J = ⟨0, 0, 0⟩) := by
      have e1 := hG.out
      rw [if_pos hm] at e1
      refine ⟨e1, ?_⟩
      rw [hDI.out, if_neg (by rw [e1]; decide)]
    have hn : (mid != 0) = true := by simpa using hm
    clear hm
    obtain ⟨W3, hW3, hth3, hb3, hk3⟩ := put_box hb02 ⟨0, 0, 0⟩
    have hB3 := hk3 _ _ (Nat.le_refl _) hB2
    have hr3 := hb3.range
    clear hk3
    go_wp2_with (first | (refine wpList_store_row rfl _ _ rfl w.heap.size rfl (ins3 ⟨0, 0, 0⟩) rfl hth3 hsz (ins3_one _) hW3 ?_) | fail)
    refine bodyPost_ret (v := .tuple #[.agg (ins3 ⟨0, 0, 0⟩).toArray, .int .i64 11]) (results_row2 rfl _ _ w.heap.size rfl (.int .i64 11) rfl (ins3 ⟨0, 0, 0⟩) hr3 hund rfl hsz) rfl ?_
    exact ⟨by rw [hGE.out.1, hGE.out.2], hB3⟩
  subst hm
  have hGE : Aside (G = 0 ∧ J = ⟨op, pp, nn⟩) := by
    have e1 : G = 0 := by rw [hG.out, if_neg (by simp)]
    exact ⟨e1, by rw [hDI.out, if_pos e1]⟩
  have hr2 := hb2.range
  obtain ⟨W3, hW3, hth3, hb3, hk3⟩ := put_box hb02 ⟨op, pp, nn⟩
  have hB3 := hk3 _ _ (Nat.le_refl _) hB2
  have hr3 := hb3.range
  clear hk3
  go_wp2_with (first | (refine wpList_load_row rfl _ rfl g rfl (ins3 ⟨op, pp, nn⟩) hr2 hund rfl hsz ?_) | (refine wpList_store_row rfl _ _ rfl w.heap.size rfl (ins3 ⟨op, pp, nn⟩) rfl hth3 hsz (ins3_one _) hW3 ?_) | fail)
  refine bodyPost_ret (v := .tuple #[.agg (ins3 ⟨op, pp, nn⟩).toArray, .int .i64 0]) (results_row2 rfl _ _ w.heap.size rfl (.int .i64 0) rfl (ins3 ⟨op, pp, nn⟩) hr3 hund rfl hsz) rfl ?_
  exact ⟨by rw [hGE.out.1, hGE.out.2], hB3⟩
set_option maxRecDepth 8000 in
set_option maxHeartbeats 4000000 in
theorem idecp_any (x : Int) (hx : fit64 x) (w : World) : Calls Try.prog 89 #[.int .i64 x] w fun e w' => e = .returned (wPtr x).v ∧ Below w.heap.size w w' := by
  have hund := Try.underlying24
  have hsz : (Try.prog.info? 24).map (·.size) = some 3 := by kernel_rfl
  have g1 := get32_16 x
  have g2 := get0_32 x
  have g3 := get48_3 x
  have hP : wPtr x = ⟨wMid x, wLow x, u64 x / 281474976710656 % 8⟩ := rfl
  generalize wMid x = mid at *
  generalize wLow x = low at *
  generalize u64 x / 281474976710656 % 8 = rr at *
  rw [hP]
  clear hP
  go_enter Try.func89, Try.ntmps89
  go_wp2_with fail
  refine (g1 _).mono ?_
  rintro e W' ⟨rfl, hq⟩
  replace hq := hq.symm
  subst hq
  go_wp2_with fail
  refine (g2 _).mono ?_
  rintro e W' ⟨rfl, hq⟩
  replace hq := hq.symm
  subst hq
  go_wp2_with fail
  refine (g3 _).mono ?_
  rintro e W' ⟨rfl, hq⟩
  replace hq := hq.symm
  subst hq
  go_wp2_with fail
  refine bodyPost_ret (v := .agg #[.int .i64 mid, .int .i64 low, .int .i64 rr]) (by simp [results, Try.results89, go_sem]) rfl ?_
  exact ⟨rfl, alloc_below _ _⟩
end Go.Proofs.Ytinibccphecdfaa
