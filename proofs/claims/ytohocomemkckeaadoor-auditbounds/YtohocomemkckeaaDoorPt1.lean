/-
  PART 1 of what the claims of this seat lean on: Common Labs Rgs HashBase HashOf Grew NodeEnc NodeMsg NodeEntry Grs NodeRefEnc Names LPathBase LPathParts LPathPure Texts LAclPure NodeChkP TreePure QuotaPure LPathOf TreeGrow AudPure Rws Blk Whole LoadAny Build1 Held TreeRows TreePut Chr TreeFirstRef Mids Two.
-/
import Derived.Test.YtohocomemkckeaaDoorProg
import Derived.WalkKit
import Derived.WalkLawsBesides
import Derived.Laws.AppendOwn
import Derived.Laws.OwnMore
import Derived.KernelRfl
import Derived.ProofKit
import Derived.Below
import Derived.Deep.RegionHeld
import Derived.Laws.Bits64
import Derived.Lib.ConvBytes
import Derived.Laws.AppendOwnNone
import Derived.Lib.AppendStr
import Derived.Deep.Cut
import Derived.Lib.Strings
import Derived.Lib.Bytealg
import Derived.Laws.RangeAny
import Derived.Deep.CutRange
import Derived.Deep.MidRow
import Derived.Great.BuildSlice
import Derived.Deep.CutBlock
namespace Go.Proofs.YtohocomemkckeaaDoor
theorem gA {α : Type} {xs : List α} {i : Nat} : xs.toArray[i]? = xs[i]? := List.getElem?_toArray
theorem gB {α : Type} {a : α} {l : List α} : (a :: l)[0]? = some a := List.getElem?_cons_zero
theorem gC {α : Type} {a : α} {l : List α} {i : Nat} : (a :: l)[i + 1]? = l[i]? := List.getElem?_cons_succ
theorem sA {α : Type} {xs : List α} {i : Nat} {a : α} : xs.toArray.setIfInBounds i a = (xs.set i a).toArray := List.setIfInBounds_toArray xs i a
theorem sB {α : Type} {a b : α} {l : List α} : (a :: l).set 0 b = b :: l := List.set_cons_zero
theorem sC {α : Type} {a b : α} {l : List α} {i : Nat} : (a :: l).set (i + 1) b = a :: l.set i b := List.set_cons_succ
end Go.Proofs.YtohocomemkckeaaDoor
/-! SMALL THINGS THAT EVERY STAGE'S TEXTS SHARE: worlds one behind the other, hypotheses laid aside, an operation by its run. -/
namespace Go.Proofs.YtohocomemkckeaaDoor
open Go.RowKit
set_option maxRecDepth 8000
set_option linter.unusedSimpArgs false
set_option linter.unusedVariables false

theorem Below.then {w W W' : World} (h : Below w.heap.size w W) (k : Below W.heap.size W W') : Below w.heap.size w W' := h.trans (k.mono h.size)
def Aside (p : Prop) : Prop := p
theorem Aside.out {p : Prop} (h : Aside p) : p := h
theorem add_at (g j : Nat) : (⟨g, 0, none⟩ : Addr).add j = ⟨g, j, none⟩ := by
  simp [Addr.add]
  exact fun h => h.symm
theorem add_off (y : Addr) (m i : Nat) (h : i ≠ 0) : y.add (m + i) = ⟨(y.add m).block, (y.add m).off + i, none⟩ := by
  unfold Addr.add
  by_cases hm : m = 0
  · simp [hm, h]
  · rw [if_neg (by omega), if_neg hm]
    simp [Nat.add_assoc]
section
variable {ops : Array Oper} {rest : List Oper} {o : Oper} {a : Act} {w : World} {Q : Exit → Act → World → Prop}
theorem wpList_value {P : Program} (hg : o.guard = none) {v : Value} {w' : World} (hx : (execOp a.eval o).run P w = .ok (.value v) w') (h : wpList P ops Q rest (a.put o.dst v) w') : wpList P ops Q (o :: rest) a w :=
  wpList_plain hg fun _ hK => by
    unfold Oper.wp
    rw [hx]
    exact hK _ _ h
end
end Go.Proofs.YtohocomemkckeaaDoor

/-! LABELS, FOR THE STAGES BEHIND THE FOURTH: their numbers, package label's functions and the document's own (donjonref4), as far as the program has them; the lattice in plain words. -/
namespace Go.Proofs.YtohocomemkckeaaDoor
open Go.RowKit
set_option maxRecDepth 8000
set_option linter.unusedSimpArgs false
set_option linter.unusedVariables false

theorem alloc_below (w : World) (o : Obj) : Below w.heap.size w (w.alloc o) := (Below.refl _ _).alloc (Nat.le_refl _) _
/-- A label's four numbers; its value. -/
structure Lab where
  s : Int
  c : Int
  i : Int
  k : Int
abbrev Lab.v (l : Lab) : Value := .agg #[.int .i64 l.s, .int .i64 l.c, .int .i64 l.i, .int .i64 l.k]
def gmax (a b : Int) : Int := if b > a then b else a
def gmin (a b : Int) : Int := if b < a then b else a
def joinL (a b : Lab) : Lab := ⟨gmax a.s b.s, bits .or .i64 a.c b.c, gmin a.i b.i, bits .and .i64 a.k b.k⟩
def meetL (a b : Lab) : Lab := ⟨gmin a.s b.s, bits .and .i64 a.c b.c, gmax a.i b.i, bits .or .i64 a.k b.k⟩
def goodL (l : Lab) : Lab := ⟨l.s % 4, l.c % 256, l.i % 4, l.k % 256⟩
def bottomL : Lab := ⟨0, 0, 3, 255⟩

theorem und : Tryd.prog.underlying 23 = some (.struct (Tryd.prog.fieldsOf 23)) := by kernel_rfl

set_option maxHeartbeats 400000 in
theorem lw_any (k m : Int) (h0 : 0 < m) (h1 : m < 1000000) (w : World) :
    Calls Tryd.prog 23 #[.int .i64 k, .int .i64 m] w fun e w' => e = .returned (.int .i64 (k % m)) ∧ w' = w := by
  have b1 := Int.lt_tmod_of_pos k h0
  have b2 := Int.tmod_lt_of_pos k h0
  have hm0 : ¬ m = 0 := by omega
  have hm1 : ¬ m = -1 := by omega
  by_cases hn : k.tmod m < 0
  · have e1 : k % m = k.tmod m + m := by
      rw [Int.tmod_eq_emod] at hn ⊢
      split at hn
      · have := Int.emod_nonneg k (by omega : m ≠ 0); omega
      · rename_i hc; rw [if_neg hc]; rw [Int.natAbs_of_nonneg (by omega)]; omega
    rw [e1]
    clear e1
    go_enter Tryd.func23, Tryd.ntmps23
    go_wp2
    go_ret
    exact ⟨rfl, rfl⟩
  · have e1 : k % m = k.tmod m := by
      rw [Int.tmod_eq_emod] at hn ⊢
      split
      · simp
      · rename_i hc
        rw [if_neg hc] at hn
        have := Int.emod_lt_of_pos k h0
        rw [Int.natAbs_of_nonneg (by omega)] at *
        omega
    rw [e1]
    clear e1
    go_enter Tryd.func23, Tryd.ntmps23
    go_wp2
    go_ret
    exact ⟨rfl, rfl⟩

theorem below3 (w : World) (a b c : Obj) : Below w.heap.size w (((w.alloc a).alloc b).alloc c) :=
  (((Below.refl _ _).alloc (Nat.le_refl _) _).alloc (by simp) _).alloc (by simp; omega) _

set_option maxHeartbeats 400000 in
theorem ljoin_any (a b : Lab) (w : World) :
    Calls Tryd.prog 42 #[a.v, b.v] w fun e w' => e = .returned (joinL a b).v ∧ Below w.heap.size w w' := by
  go_enter Tryd.func42, Tryd.ntmps42
  go_wp2
  all_goals (refine bodyPost_ret (v := (joinL a b).v) (by simp [results, Tryd.results42, go_sem, joinL, gmax, gmin, *] <;> omega) rfl ⟨rfl, below3 _ _ _ _⟩)



def lessL (a b : Lab) : Bool := if (a.s != b.s) = true then decide (a.s < b.s) else if (a.c != b.c) = true then decide (a.c < b.c) else if (a.i != b.i) = true then decide (a.i < b.i) else decide (a.k < b.k)
theorem below2 (w : World) (a b : Obj) : Below w.heap.size w ((w.alloc a).alloc b) := ((Below.refl _ _).alloc (Nat.le_refl _) _).alloc (by simp) _
set_option maxHeartbeats 400000 in
theorem lless_any (a b : Lab) (w : World) :
    Calls Tryd.prog 28 #[a.v, b.v] w fun e w' => e = .returned (.bool (lessL a b)) ∧ Below w.heap.size w w' := by
  go_enter Tryd.func28, Tryd.ntmps28
  go_wp2
  all_goals (refine bodyPost_ret (v := .bool (lessL a b)) (by simp only [lessL]; simp [results, Tryd.results28, go_sem, *]) rfl ⟨rfl, below2 _ _ _⟩)

set_option maxHeartbeats 400000 in
theorem good_any (l : Lab) (w : World) :
    Calls Tryd.prog 8 #[l.v] w fun e w' => e = .returned (goodL l).v ∧ Below w.heap.size w w' := by
  go_enter Tryd.func8, Tryd.ntmps8
  go_wp2_with fail
  go_region_held (fun W => W.cell? ⟨w.heap.size, 0, none⟩ = some (.int .i64 l.s) ∧ W.cell? ⟨w.heap.size, 1, none⟩ = some (.int .i64 l.c) ∧ W.cell? ⟨w.heap.size, 2, none⟩ = some (.int .i64 l.i) ∧ W.cell? ⟨w.heap.size, 3, none⟩ = some (.int .i64 l.k)) (go_keep)
    (first | (go_at_call 23; refine (lw_any _ _ (by decide) (by decide) _).mono ?_; rintro e w' ⟨rfl, rfl⟩) | fail)
  go_wp2
  exact bodyPost_ret (v := (goodL l).v) (by simp [results, Tryd.results8, go_sem, goodL]) rfl ⟨rfl, (below2 _ _ _).drew⟩

/-- Labels as structs are compared field by field. -/
def labEq (x y : Lab) : Bool := x.s == y.s && (x.c == y.c && (x.i == y.i && x.k == y.k))
theorem labEq_iff (x y : Lab) : labEq x y = true ↔ x = y := by
  cases x; cases y; simp [labEq]
theorem run_eql_lab (x y : Lab) (w : World) : (binOp .eql 23 x.v y.v).run Tryd.prog w = .ok (.bool (labEq x y)) w := by
  have e : labEq x y = (x.s == y.s && (x.c == y.c && (x.i == y.i && x.k == y.k))) := rfl
  rw [e]
  go_simp
  repeat' split
  all_goals simp_all
theorem run_neq_lab (x y : Lab) (w : World) : (binOp .neq 23 x.v y.v).run Tryd.prog w = .ok (.bool (!labEq x y)) w := by
  have e : labEq x y = (x.s == y.s && (x.c == y.c && (x.i == y.i && x.k == y.k))) := rfl
  rw [e]
  go_simp
  repeat' split
  all_goals simp_all

/-- A label in a block of its own. -/
abbrev Boxed (W : World) (g : Nat) (l : Lab) : Prop := W.cell? ⟨g, 0, none⟩ = some (.int .i64 l.s) ∧ W.cell? ⟨g, 1, none⟩ = some (.int .i64 l.c) ∧ W.cell? ⟨g, 2, none⟩ = some (.int .i64 l.i) ∧ W.cell? ⟨g, 3, none⟩ = some (.int .i64 l.k)
theorem Boxed.keep {W W' : World} {g : Nat} {l : Lab} (h : Boxed W g l) (hb : Below W.heap.size W W') : Boxed W' g l := by
  obtain ⟨a, b, c, d⟩ := h
  have hg := World.block_lt_of_cell? _ _ a
  exact ⟨(hb.cell (p := ⟨g, 0, none⟩) hg).trans a, (hb.cell (p := ⟨g, 1, none⟩) hg).trans b, (hb.cell (p := ⟨g, 2, none⟩) hg).trans c, (hb.cell (p := ⟨g, 3, none⟩) hg).trans d⟩
theorem keep2 {W W' : World} {g g' : Nat} {l l' : Lab} (hb : Below W.heap.size W W') (h : Boxed W g l ∧ Boxed W g' l') : Boxed W' g l ∧ Boxed W' g' l' := ⟨h.1.keep hb, h.2.keep hb⟩
theorem boxed_alloc (w : World) (l : Lab) : Boxed (w.alloc (.cells #[.int .i64 l.s, .int .i64 l.c, .int .i64 l.i, .int .i64 l.k] 23)) w.heap.size l := by
  refine ⟨?_, ?_, ?_, ?_⟩ <;> simp [World.cell?_alloc_at]

def inB (n m : Int) : Bool := decide (0 ≤ n) && decide (n ≤ m)
set_option maxHeartbeats 400000 in
theorem labwithin_any (n m : Int) (w : World) :
    Calls Tryd.prog 58 #[.int .i64 n, .int .i64 m] w fun e w' => e = .returned (.bool (inB n m)) ∧ w' = w := by
  unfold inB
  by_cases h : 0 ≤ n
  · go_enter Tryd.func58, Tryd.ntmps58
    go_wp2
    go_ret
    exact ⟨by simp [h], rfl⟩
  · have h' : decide (0 ≤ n) = false := by simpa using h
    go_enter Tryd.func58, Tryd.ntmps58
    go_wp2
    go_ret
    exact ⟨by simp, rfl⟩


set_option maxHeartbeats 400000 in
theorem lover_any (a b : Lab) (w : World) :
    Calls Tryd.prog 25 #[a.v, b.v] w fun e w' => e = .returned (.bool (labEq (joinL a b) a)) ∧ Below w.heap.size w w' := by
  have heq := run_eql_lab
  have hS := keep2 (Below.refl _ _).drew ⟨(boxed_alloc w a).keep ((Below.refl _ _).alloc (Nat.le_refl _) (.cells #[.int .i64 b.s, .int .i64 b.c, .int .i64 b.i, .int .i64 b.k] 23)), boxed_alloc (w.alloc (.cells #[.int .i64 a.s, .int .i64 a.c, .int .i64 a.i, .int .i64 a.k] 23)) b⟩
  have hz : (w.alloc (.cells #[.int .i64 a.s, .int .i64 a.c, .int .i64 a.i, .int .i64 a.k] 23)).heap.size = w.heap.size + 1 := by simp
  rw [hz] at hS
  have hB := below2 w (.cells #[.int .i64 a.s, .int .i64 a.c, .int .i64 a.i, .int .i64 a.k] 23) (.cells #[.int .i64 b.s, .int .i64 b.c, .int .i64 b.i, .int .i64 b.k] 23)
  go_enter Tryd.func25, Tryd.ntmps25
  go_wp2_with fail
  generalize ((w.alloc (.cells #[.int .i64 a.s, .int .i64 a.c, .int .i64 a.i, .int .i64 a.k] 23)).alloc (.cells #[.int .i64 b.s, .int .i64 b.c, .int .i64 b.i, .int .i64 b.k] 23)) = W0 at hS hB ⊢
  go_region_held (fun W => Boxed W w.heap.size a ∧ Boxed W (w.heap.size + 1) b) (first | exact hS | exact keep2 (by assumption) (by assumption))
    (first | (go_at_call 42; refine (ljoin_any a b _).mono ?_; rintro e w1 ⟨rfl, hb⟩) | fail)
  go_wp2
  go_ret
  exact ⟨rfl, Below.then hB.drew hb⟩

def okL (l : Lab) : Bool := inB l.s 3 && inB l.c 255 && inB l.i 3 && inB l.k 255
def chkL (l : Lab) : Int := if okL l = true then 0 else 1
set_option maxHeartbeats 1000000 in
theorem lcheck_any (l : Lab) (w : World) :
    Calls Tryd.prog 41 #[l.v] w fun e w' => e = .returned (.int .i64 (chkL l)) ∧ Below w.heap.size w w' := by
  have hc := labwithin_any
  cases h0 : inB l.s 3
  · have e : chkL l = 1 := by simp [chkL, okL, h0]
    rw [e]
    go_enter Tryd.func41, Tryd.ntmps41
    go_wp2_with (go_at_call 58; refine (hc _ _ _).mono ?_; rintro e w' ⟨rfl, rfl⟩)
    go_ret
    exact ⟨rfl, (Below.refl _ _).alloc (Nat.le_refl _) _⟩
  cases h1 : inB l.c 255
  · have e : chkL l = 1 := by simp [chkL, okL, h1]
    rw [e]
    go_enter Tryd.func41, Tryd.ntmps41
    go_wp2_with (go_at_call 58; refine (hc _ _ _).mono ?_; rintro e w' ⟨rfl, rfl⟩)
    go_ret
    exact ⟨rfl, (Below.refl _ _).alloc (Nat.le_refl _) _⟩
  cases h2 : inB l.i 3
  · have e : chkL l = 1 := by simp [chkL, okL, h2]
    rw [e]
    go_enter Tryd.func41, Tryd.ntmps41
    go_wp2_with (go_at_call 58; refine (hc _ _ _).mono ?_; rintro e w' ⟨rfl, rfl⟩)
    go_ret
    exact ⟨rfl, (Below.refl _ _).alloc (Nat.le_refl _) _⟩
  cases h3 : inB l.k 255
  · have e : chkL l = 1 := by simp [chkL, okL, h3]
    rw [e]
    go_enter Tryd.func41, Tryd.ntmps41
    go_wp2_with (go_at_call 58; refine (hc _ _ _).mono ?_; rintro e w' ⟨rfl, rfl⟩)
    go_ret
    exact ⟨rfl, (Below.refl _ _).alloc (Nat.le_refl _) _⟩
  have e : chkL l = 0 := by simp [chkL, okL, h0, h1, h2, h3]
  rw [e]
  go_enter Tryd.func41, Tryd.ntmps41
  go_wp2_with (go_at_call 58; refine (hc _ _ _).mono ?_; rintro e w' ⟨rfl, rfl⟩)
  go_ret
  exact ⟨rfl, (Below.refl _ _).alloc (Nat.le_refl _) _⟩
theorem ofInt_nat (a : Nat) (h : a < 9223372036854775808) : (BitVec.ofInt 64 (a : Int)).toNat = a := by
  rw [BitVec.ofInt_natCast, BitVec.toNat_ofNat]; exact Nat.mod_eq_of_lt (by omega)
theorem wrap_small (a : Nat) (h : a < 9223372036854775808) : IntKind.i64.wrap (a : Int) = (a : Int) := by
  rw [IntKind.wrap_i64]; omega
theorem bor (a b : Nat) (ha : a < 256) (hb : b < 256) : bits .or .i64 (a : Int) (b : Int) = ((a ||| b : Nat) : Int) := by
  have hx : a ||| b < 2 ^ 8 := Nat.or_lt_two_pow (by omega) (by omega)
  show IntKind.i64.wrap ((BitVec.ofInt 64 (a : Int) ||| BitVec.ofInt 64 (b : Int)).toNat : Int) = _
  rw [BitVec.toNat_or, ofInt_nat a (by omega), ofInt_nat b (by omega), wrap_small _ (by omega)]
theorem band (a b : Nat) (ha : a < 256) (hb : b < 256) : bits .and .i64 (a : Int) (b : Int) = ((a &&& b : Nat) : Int) := by
  have hx : a &&& b < 2 ^ 8 := Nat.and_lt_two_pow a (by omega)
  show IntKind.i64.wrap ((BitVec.ofInt 64 (a : Int) &&& BitVec.ofInt 64 (b : Int)).toNat : Int) = _
  rw [BitVec.toNat_and, ofInt_nat a (by omega), ofInt_nat b (by omega), wrap_small _ (by omega)]

/-- A label that may be. -/
structure GL (l : Lab) : Prop where
  s0 : 0 ≤ l.s
  s1 : l.s ≤ 3
  c0 : 0 ≤ l.c
  c1 : l.c ≤ 255
  i0 : 0 ≤ l.i
  i1 : l.i ≤ 3
  k0 : 0 ≤ l.k
  k1 : l.k ≤ 255
theorem good_GL (l : Lab) : GL (goodL l) := by
  constructor <;> simp only [goodL] <;> omega
theorem bottom_GL : GL bottomL := by constructor <;> decide
/-- Its numbers as natural ones. -/
theorem GL.nat {l : Lab} (h : GL l) : ∃ s c i k : Nat, l = ⟨s, c, i, k⟩ ∧ s < 4 ∧ c < 256 ∧ i < 4 ∧ k < 256 := by
  obtain ⟨a, b, c, d, e, f, g, i⟩ := h
  obtain ⟨s, hs⟩ := Int.eq_ofNat_of_zero_le a
  obtain ⟨c', hc⟩ := Int.eq_ofNat_of_zero_le c
  obtain ⟨i', hi⟩ := Int.eq_ofNat_of_zero_le e
  obtain ⟨k', hk⟩ := Int.eq_ofNat_of_zero_le g
  refine ⟨s, c', i', k', ?_, by omega, by omega, by omega, by omega⟩
  cases l
  simp_all

/-- Join and meet of natural numbers. -/
structure NL where
  s : Nat
  c : Nat
  i : Nat
  k : Nat
def NL.lab (l : NL) : Lab := ⟨l.s, l.c, l.i, l.k⟩
def NL.ok (l : NL) : Prop := l.s < 4 ∧ l.c < 256 ∧ l.i < 4 ∧ l.k < 256
def NL.join (a b : NL) : NL := ⟨max a.s b.s, a.c ||| b.c, min a.i b.i, a.k &&& b.k⟩
def NL.meet (a b : NL) : NL := ⟨min a.s b.s, a.c &&& b.c, max a.i b.i, a.k ||| b.k⟩
def NL.bot : NL := ⟨0, 0, 3, 255⟩
theorem bot_lab : NL.bot.lab = bottomL := rfl
theorem bot_ok : NL.bot.ok := by simp [NL.bot, NL.ok]
theorem GL.nl {l : Lab} (h : GL l) : ∃ n : NL, l = n.lab ∧ n.ok :=
  let ⟨s, c, i, k, e, h1, h2, h3, h4⟩ := h.nat
  ⟨⟨s, c, i, k⟩, e, h1, h2, h3, h4⟩
theorem gmax_nat (a b : Nat) : gmax (a : Int) (b : Int) = ((max a b : Nat) : Int) := by unfold gmax; split <;> omega
theorem gmin_nat (a b : Nat) : gmin (a : Int) (b : Int) = ((min a b : Nat) : Int) := by unfold gmin; split <;> omega
theorem join_lab {a b : NL} (ha : a.ok) (hb : b.ok) : joinL a.lab b.lab = (a.join b).lab := by
  simp only [joinL, NL.lab, NL.join, gmax_nat, gmin_nat, bor _ _ ha.2.1 hb.2.1, band _ _ ha.2.2.2 hb.2.2.2]
theorem meet_lab {a b : NL} (ha : a.ok) (hb : b.ok) : meetL a.lab b.lab = (a.meet b).lab := by
  simp only [meetL, NL.lab, NL.meet, gmax_nat, gmin_nat, bor _ _ ha.2.2.2 hb.2.2.2, band _ _ ha.2.1 hb.2.1]
theorem lab_inj {a b : NL} : a.lab = b.lab ↔ a = b := by
  cases a; cases b; simp only [NL.lab, Lab.mk.injEq, NL.mk.injEq]; omega
theorem join_ok {a b : NL} (ha : a.ok) (hb : b.ok) : (a.join b).ok := by
  obtain ⟨a1, a2, a3, a4⟩ := ha
  obtain ⟨b1, b2, b3, b4⟩ := hb
  refine ⟨by simp only [NL.join]; omega, Nat.or_lt_two_pow (n := 8) a2 b2, by simp only [NL.join]; omega, Nat.and_lt_two_pow (n := 8) _ b4⟩
theorem meet_ok {a b : NL} (ha : a.ok) (hb : b.ok) : (a.meet b).ok := by
  obtain ⟨a1, a2, a3, a4⟩ := ha
  obtain ⟨b1, b2, b3, b4⟩ := hb
  refine ⟨by simp only [NL.meet]; omega, Nat.and_lt_two_pow (n := 8) _ b2, by simp only [NL.meet]; omega, Nat.or_lt_two_pow (n := 8) a4 b4⟩
theorem lab_GL {a : NL} (h : a.ok) : GL a.lab := by
  obtain ⟨a1, a2, a3, a4⟩ := h
  constructor <;> simp only [NL.lab] <;> omega
/-- a is over b. -/
def NL.over (a b : NL) : Prop := a.join b = a
theorem over_iff {a b : NL} : a.over b ↔ b.s ≤ a.s ∧ a.c ||| b.c = a.c ∧ a.i ≤ b.i ∧ a.k &&& b.k = a.k := by
  cases a; cases b; simp only [NL.over, NL.join, NL.mk.injEq]; omega
theorem or_and (a b : Nat) : a ||| b = a ↔ a &&& b = b := by
  constructor
  · intro h; rw [← h]; apply Nat.eq_of_testBit_eq; intro i; cases ha : a.testBit i <;> cases hb : b.testBit i <;> simp [ha, hb]
  · intro h; rw [← h]; apply Nat.eq_of_testBit_eq; intro i; cases ha : a.testBit i <;> cases hb : b.testBit i <;> simp [ha, hb]
theorem join_comm (a b : NL) : a.join b = b.join a := by simp only [NL.join, NL.mk.injEq]; exact ⟨Nat.max_comm _ _, Nat.or_comm _ _, Nat.min_comm _ _, Nat.and_comm _ _⟩
theorem meet_comm (a b : NL) : a.meet b = b.meet a := by simp only [NL.meet, NL.mk.injEq]; exact ⟨Nat.min_comm _ _, Nat.and_comm _ _, Nat.max_comm _ _, Nat.or_comm _ _⟩
theorem join_assoc (a b c : NL) : (a.join b).join c = a.join (b.join c) := by simp only [NL.join, NL.mk.injEq]; exact ⟨Nat.max_assoc _ _ _, Nat.or_assoc _ _ _, Nat.min_assoc _ _ _, Nat.and_assoc _ _ _⟩
theorem meet_assoc (a b c : NL) : (a.meet b).meet c = a.meet (b.meet c) := by simp only [NL.meet, NL.mk.injEq]; exact ⟨Nat.min_assoc _ _ _, Nat.and_assoc _ _ _, Nat.max_assoc _ _ _, Nat.or_assoc _ _ _⟩
theorem join_self (a : NL) : a.join a = a := by cases a; simp [NL.join]
theorem meet_self (a : NL) : a.meet a = a := by cases a; simp [NL.meet]
theorem over_refl (a : NL) : a.over a := join_self a
theorem over_antisymm {a b : NL} (h : a.over b) (k : b.over a) : a = b := by rw [← h, join_comm]; exact k
theorem over_trans {a b c : NL} (h : a.over b) (k : b.over c) : a.over c := by
  unfold NL.over at *; rw [← h, join_assoc, k]
theorem and_255 {a : Nat} (h : a < 256) : a &&& 255 = a := by
  rw [show 255 = 2 ^ 8 - 1 from rfl, Nat.and_two_pow_sub_one_eq_mod]; exact Nat.mod_eq_of_lt h
theorem or_255 {a : Nat} (h : a < 256) : a ||| 255 = 255 := by
  rw [Nat.or_comm, (or_and 255 a)]; rw [Nat.and_comm]; exact and_255 h
theorem over_bot {a : NL} (h : a.ok) : a.over NL.bot := by
  obtain ⟨a1, a2, a3, a4⟩ := h
  refine over_iff.2 ⟨Nat.zero_le _, by simp [NL.bot], by simp only [NL.bot]; omega, and_255 a4⟩
theorem meet_bot {a : NL} (h : a.ok) : a.meet NL.bot = NL.bot := by
  obtain ⟨a1, a2, a3, a4⟩ := h
  cases a
  simp only [NL.meet, NL.bot, NL.mk.injEq] at *
  exact ⟨by omega, by simp, by omega, or_255 a4⟩
theorem join_meet (a b : NL) : a.join (a.meet b) = a := by
  cases a; cases b
  simp only [NL.join, NL.meet, NL.mk.injEq]
  refine ⟨by omega, ?_, by omega, ?_⟩ <;> apply Nat.eq_of_testBit_eq <;> intro i <;> simp <;> intro h <;> simp [h]
theorem meet_join (a b : NL) : a.meet (a.join b) = a := by
  cases a; cases b
  simp only [NL.join, NL.meet, NL.mk.injEq]
  refine ⟨by omega, ?_, by omega, ?_⟩ <;> apply Nat.eq_of_testBit_eq <;> intro i <;> simp <;> intro h <;> simp [h]
theorem over_meet {a b : NL} : a.over b ↔ a.meet b = b := by
  cases a; cases b
  simp only [NL.over, NL.join, NL.meet, NL.mk.injEq]
  rw [or_and]
  have := or_and
  constructor
  · rintro ⟨h1, h2, h3, h4⟩; exact ⟨by omega, h2, by omega, by rw [Nat.or_comm, or_and, Nat.and_comm]; exact h4⟩
  · rintro ⟨h1, h2, h3, h4⟩; exact ⟨by omega, h2, by omega, by rw [Nat.or_comm, or_and, Nat.and_comm] at h4; exact h4⟩
/-- What the program's Over tells. -/
def ov (a b : Lab) : Bool := labEq (joinL a b) a
theorem ov_iff {a b : NL} (ha : a.ok) (hb : b.ok) : ov a.lab b.lab = true ↔ a.over b := by
  unfold ov; rw [labEq_iff, join_lab ha hb, lab_inj]; rfl
/-- The document's Over of four numbers. -/
def rov (a b : Lab) : Bool := decide (a.s ≥ b.s) && (bits .and .i64 a.c b.c == b.c) && decide (a.i ≤ b.i) && (bits .and .i64 a.k b.k == a.k)
set_option maxHeartbeats 1000000 in
theorem rlover_any (a b : Lab) (w : World) :
    Calls Tryd.prog 17 #[a.v, b.v] w fun e w' => e = .returned (.bool (rov a b)) ∧ Below w.heap.size w w' := by
  cases h0 : decide (a.s ≥ b.s)
  · have e : rov a b = false := by simp only [rov, h0]; simp
    rw [e]
    go_enter Tryd.func17, Tryd.ntmps17
    go_wp2
    go_ret
    exact ⟨rfl, below2 _ _ _⟩
  cases h1 : (bits .and .i64 a.c b.c == b.c)
  · have e : rov a b = false := by simp only [rov, h0, h1]; simp
    rw [e]
    go_enter Tryd.func17, Tryd.ntmps17
    go_wp2
    go_ret
    exact ⟨rfl, below2 _ _ _⟩
  cases h2 : decide (a.i ≤ b.i)
  · have e : rov a b = false := by simp only [rov, h0, h1, h2]; simp
    rw [e]
    go_enter Tryd.func17, Tryd.ntmps17
    go_wp2
    go_ret
    exact ⟨rfl, below2 _ _ _⟩
  have e : rov a b = (bits .and .i64 a.k b.k == a.k) := by simp only [rov, h0, h1, h2]; simp
  rw [e]
  go_enter Tryd.func17, Tryd.ntmps17
  go_wp2
  go_ret
  exact ⟨rfl, below2 _ _ _⟩
def b8 (l : Lab) : List Bool := [decide (l.s < 0), decide (l.s > 3), decide (l.i < 0), decide (l.i > 3), decide (l.c < 0), decide (l.c > 255), decide (l.k < 0), decide (l.k > 255)]
theorem chk_b8 (l : Lab) : chkL l = if (b8 l).any id = true then 1 else 0 := by
  unfold chkL okL inB b8
  simp only [List.any_cons, List.any_nil, id, Bool.or_eq_true, Bool.or_false, decide_eq_true_eq, Bool.and_eq_true]
  split <;> split <;> omega
/-- The document's Over is the program's. -/
theorem rov_ov {A B : NL} (okA : A.ok) (okB : B.ok) : rov A.lab B.lab = ov A.lab B.lab := by
  rw [Bool.eq_iff_iff, ov_iff okA okB, over_iff, or_and]
  unfold rov NL.lab
  simp only [band _ _ okA.2.1 okB.2.1, band _ _ okA.2.2.2 okB.2.2.2, Bool.and_eq_true, decide_eq_true_eq, beq_iff_eq]
  omega
end Go.Proofs.YtohocomemkckeaaDoor

/-! RINGS, FOR THE STAGES BEHIND THE SIXTH: their numbers, the laws' Good; the laws' own numbers within bounds. -/
namespace Go.Proofs.YtohocomemkckeaaDoor
open Go.RowKit
set_option maxRecDepth 8000
set_option linter.unusedSimpArgs false
set_option linter.unusedVariables false

/-- A bracket's four numbers; its value. -/
structure Rg where
  a : Int
  b : Int
  c : Int
  g : Int
abbrev Rg.v (x : Rg) : Value := .agg #[.int .i64 x.a, .int .i64 x.b, .int .i64 x.c, .int .i64 x.g]
def mayR (x : Rg) (r : Int) : Bool := decide (0 ≤ r ∧ r ≤ 7 ∧ r ≤ x.b)
def mayW (x : Rg) (r : Int) : Bool := decide (0 ≤ r ∧ r ≤ 7 ∧ r ≤ x.a)
def mayX (x : Rg) (r : Int) : Bool := decide (0 ≤ r ∧ r ≤ 7 ∧ x.a ≤ r ∧ r ≤ x.b)
def isR (r : Int) : Bool := decide (0 ≤ r ∧ r ≤ 7)
abbrev OkR (x : Rg) : Prop := 0 ≤ x.a ∧ x.a ≤ x.b ∧ x.b ≤ x.c ∧ x.c ≤ 7 ∧ 0 ≤ x.g ∧ x.g ≤ 16
def chkR (x : Rg) : Int := if OkR x then 0 else 1
def goodR (x : Rg) : Rg := ⟨x.a % 8, x.a % 8 + x.b % (8 - x.a % 8), x.a % 8 + x.b % (8 - x.a % 8) + x.c % (8 - (x.a % 8 + x.b % (8 - x.a % 8))), x.g % 17⟩

theorem goodR_ok (x : Rg) : OkR (goodR x) := by
  have h1 := Int.emod_nonneg x.a (by decide : (8 : Int) ≠ 0)
  have h2 := Int.emod_lt_of_pos x.a (by decide : (0 : Int) < 8)
  have h3 := Int.emod_nonneg x.b (by omega : (8 - x.a % 8 : Int) ≠ 0)
  have h4 := Int.emod_lt_of_pos x.b (by omega : (0 : Int) < 8 - x.a % 8)
  have h5 := Int.emod_nonneg x.c (by omega : (8 - (x.a % 8 + x.b % (8 - x.a % 8)) : Int) ≠ 0)
  have h6 := Int.emod_lt_of_pos x.c (by omega : (0 : Int) < 8 - (x.a % 8 + x.b % (8 - x.a % 8)))
  refine ⟨?_, ?_, ?_, ?_, ?_, ?_⟩ <;> simp only [goodR] <;> omega

abbrev RBox (W : World) (g : Nat) (l : Rg) : Prop := W.cell? ⟨g, 0, none⟩ = some (.int .i64 l.a) ∧ W.cell? ⟨g, 1, none⟩ = some (.int .i64 l.b) ∧ W.cell? ⟨g, 2, none⟩ = some (.int .i64 l.c) ∧ W.cell? ⟨g, 3, none⟩ = some (.int .i64 l.g)
end Go.Proofs.YtohocomemkckeaaDoor

/-! THE CHAIN OF BYTES, IN PLAIN WORDS, AND THE DOCUMENT'S OWN FUNCTIONS (donjonref8). -/
namespace Go.Proofs.YtohocomemkckeaaDoor
open Go.RowKit
set_option maxRecDepth 8000
set_option linter.unusedSimpArgs false
set_option linter.unusedVariables false

/-- One byte more. -/
def st (h c : Nat) : Nat := (1099511628211 * (h ^^^ c)) % 18446744073709551616
def chain (h : Nat) (l : List UInt8) : Nat := l.foldl (fun h c => st h c.toNat) h
theorem st_lt (h c : Nat) : st h c < 18446744073709551616 := Nat.mod_lt _ (by decide)
theorem chain_nil (h : Nat) : chain h [] = h := by
  unfold chain
  rw [List.foldl_nil]
theorem chain_append (h : Nat) (a b : List UInt8) : chain h (a ++ b) = chain (chain h a) b := by
  unfold chain
  rw [List.foldl_append]
theorem chain_one (h : Nat) (c : UInt8) : chain h [c] = st h c.toNat := by
  unfold chain
  rw [List.foldl_cons, List.foldl_nil]
theorem chain_lt {h : Nat} (hh : h < 18446744073709551616) (l : List UInt8) : chain h l < 18446744073709551616 := by
  rcases List.eq_nil_or_concat l with rfl | ⟨r, c, rfl⟩
  · rw [chain_nil]; exact hh
  · rw [List.concat_eq_append, chain_append, chain_one]
    exact st_lt _ _
theorem mul_back {x : Nat} (hx : x < 18446744073709551616) : (x * 1099511628211 % 18446744073709551616) * 14886173955864302971 % 18446744073709551616 = x := by
  rw [Nat.mod_mul_mod, Nat.mul_assoc, Nat.mul_mod, show (1099511628211 * 14886173955864302971) % 18446744073709551616 = 1 by decide, Nat.mul_one, Nat.mod_mod]
  exact Nat.mod_eq_of_lt hx
theorem st_inj {h a b : Nat} (hh : h < 18446744073709551616) (ha : a < 18446744073709551616) (hb : b < 18446744073709551616) (e : st h a = st h b) : a = b := by
  have x1 : h ^^^ a < 18446744073709551616 := Nat.xor_lt_two_pow (n := 64) hh ha
  have x2 : h ^^^ b < 18446744073709551616 := Nat.xor_lt_two_pow (n := 64) hh hb
  have e2 : h ^^^ a = h ^^^ b := by
    unfold st at e
    rw [Nat.mul_comm, Nat.mul_comm 1099511628211] at e
    rw [← mul_back x1, e, mul_back x2]
  have e3 : h ^^^ (h ^^^ a) = h ^^^ (h ^^^ b) := by rw [e2]
  rwa [← Nat.xor_assoc, ← Nat.xor_assoc, Nat.xor_self, Nat.zero_xor, Nat.zero_xor] at e3
theorem st_run {h c : Nat} (hh : h < 18446744073709551616) (hc : c < 256) : IntKind.u64.wrap (bits .xor .u64 (h : Int) (c : Int) * 1099511628211) = (st h c : Int) := by
  rw [bits_xor_u64_nat h c hh (by omega), IntKind.wrap_u64]
  unfold st
  rw [Nat.mul_comm, Int.natCast_emod, Int.natCast_mul]
  rfl

/-- Bytes in memory. -/
def BytesAt (w : World) (a : Option Addr) (n : Nat) (l : List UInt8) : Prop :=
  l.length = n ∧ ∀ j, j < n → ∃ y, a = some y ∧ w.cell? (y.add j) = some (.int .u8 ((l.getD j 0).toNat : Int))
theorem BytesAt.below {w w' : World} {a : Option Addr} {n : Nat} {l : List UInt8} (h : BytesAt w a n l) (b : Below w.heap.size w w') : BytesAt w' a n l := by
  refine ⟨h.1, fun j hj => ?_⟩
  obtain ⟨y, hy, hc⟩ := h.2 j hj
  exact ⟨y, hy, (b.cell (World.block_lt_of_cell? _ _ hc)).trans hc⟩
theorem chain_take (h : Nat) (l : List UInt8) {i : Nat} (hi : i < l.length) : chain h (l.take (i + 1)) = st (chain h (l.take i)) (l.getD i 0).toNat := by
  rw [List.take_add_one, List.getElem?_eq_getElem hi, List.getD_eq_getElem?_getD, List.getElem?_eq_getElem hi]
  rw [show (some l[i]).toList = [l[i]] from rfl, chain_append, chain_one, Option.getD_some]

set_option maxHeartbeats 1000000 in
theorem rchain_any (a : Option Addr) (l : List UInt8) (n cap h : Nat) (hn : n ≤ 1000000) (hh : h < 18446744073709551616) (w : World) (hb : BytesAt w a n l) :
    Calls Tryd.prog 19 #[.int .u64 (h : Int), .slice a n cap] w fun e w' => e = .returned (.int .u64 (chain h l : Nat)) ∧ w' = w := by
  go_enter Tryd.func19, Tryd.ntmps19
  go_wp2
  go_loopw [0, 5] (fun t0 t5 wr => ∃ i : Nat, i ≤ n ∧ t5 = .int .i64 (i : Int) ∧ t0 = .int .u64 (chain h (l.take i) : Nat) ∧ wr = w) (fun _ t5 _ => n - (Go.RowKit.intOf t5).toNat)
  case atStart => exact ⟨0, by omega, rfl, by rw [List.take_zero, chain_nil], rfl⟩
  case round =>
    obtain ⟨i, hi, rfl, rfl, rfl⟩ := hrel
    by_cases hlt : i < n
    · obtain ⟨y, rfl, hc⟩ := hb.2 i hlt
      have hnx := chain_take h l (i := i) (by rw [hb.1]; exact hlt)
      have hg := chain_lt hh (l.take i)
      obtain ⟨g, hge⟩ : ∃ g, chain h (l.take i) = g := ⟨_, rfl⟩
      rw [hge] at hnx hg ⊢
      have hcl := (l.getD i 0).toNat_lt
      obtain ⟨c, hce⟩ : ∃ c, (l.getD i 0).toNat = c := ⟨_, rfl⟩
      rw [hce] at hc hnx hcl
      have hst := st_run hg (c := c) (by omega)
      have hwc : IntKind.u64.wrap (c : Int) = (c : Int) := by rw [IntKind.wrap_u64]; omega
      go_wp2
      exact ⟨⟨i + 1, by omega, by simp, by rw [hnx], trivial⟩, by simp [Go.RowKit.intOf]; omega⟩
    · obtain rfl : i = n := by omega
      rw [← hb.1, List.take_length]
      go_wp2
      go_ret
      exact ⟨rfl, rfl⟩
end Go.Proofs.YtohocomemkckeaaDoor

/-! A SALT'S EIGHT BYTES, AND THE DOCUMENT'S OWN Of; rows of bytes of one's own. -/
namespace Go.Proofs.YtohocomemkckeaaDoor
open Go.RowKit
set_option maxRecDepth 8000
set_option linter.unusedSimpArgs false
set_option linter.unusedVariables false

/-- The first k of a salt's eight bytes, the highest first. -/
def saltTo (s k : Nat) : List UInt8 := (List.range k).map fun j => UInt8.ofNat (s / 2 ^ (8 * (7 - j)))
theorem saltTo_succ (s k : Nat) : saltTo s (k + 1) = saltTo s k ++ [UInt8.ofNat (s / 2 ^ (8 * (7 - k)))] := by simp [saltTo, List.range_succ]
theorem saltTo_len (s k : Nat) : (saltTo s k).length = k := by simp [saltTo]
/-- What a salt and a word come to. -/
def saltN (x : Int) : Nat := (x % 18446744073709551616).toNat
def ofN (x : Int) (l : List UInt8) : Nat := chain (chain 14695981039346656037 (saltTo (saltN x) 8)) l
theorem saltN_lt (x : Int) : saltN x < 18446744073709551616 := by unfold saltN; omega
theorem start_lt : (14695981039346656037 : Nat) < 18446744073709551616 := by decide
theorem ofN_lt (x : Int) (l : List UInt8) : ofN x l < 18446744073709551616 := chain_lt (chain_lt start_lt _) _

/-- A row of bytes of the call's own. -/
def valsB (l : List UInt8) : List Value := l.map fun c => .int .u8 (c.toNat : Int)
theorem valsB_len (l : List UInt8) : (valsB l).length = l.length := by simp [valsB]
def OwnB (w : World) (base : Nat) (v : Value) (l : List UInt8) : Prop := w.ownsRow base 5 1 v l.length (valsB l)
theorem ownB_nil (w : World) (base : Nat) : OwnB w base (.slice none 0 0) [] := World.ownsRow_nil _ _ _ _
theorem OwnB.slice {w : World} {base : Nat} {v : Value} {l : List UInt8} (h : OwnB w base v l) : ∃ a cap, v = .slice a l.length cap ∧ BytesAt w a l.length l := by
  have hrow : w.ownsRow base 5 1 v l.length (valsB l) := h
  rcases h.2 with ⟨rfl, h2⟩ | ⟨g, cap, cur, rfl, _⟩
  · exact ⟨none, 0, by rw [h2], rfl, fun j hj => by omega⟩
  · refine ⟨_, cap, rfl, rfl, fun j hj => ⟨_, rfl, ?_⟩⟩
    rw [add_at g j, hrow.cellAt j (by omega)]
    simp [valsB, List.getElem?_eq_getElem hj, List.getD_eq_getElem?_getD]
theorem OwnB.below {w w' : World} {base : Nat} {v : Value} {l : List UInt8} (h : OwnB w base v l) (b : Below w.heap.size w w') : OwnB w' base v l := by
  refine ⟨h.1, ?_⟩
  rcases h.2 with h1 | ⟨g, cap, cur, hv, hb, hg, rest⟩
  · exact .inl h1
  · exact .inr ⟨g, cap, cur, hv, hb, (b.block g (Array.getElem?_eq_some_iff.1 hg).1).trans hg, rest⟩
theorem info_u8 : (Tryd.prog.info? 5).map (fun i => (i.zero, i.size, i.bytes)) = some (some (.int .u8 0), 1, 1) := by kernel_rfl
theorem info_u8s : ∃ i, Tryd.prog.info? 5 = some i ∧ i.zero = some (.int .u8 0) ∧ i.size = 1 ∧ i.bytes = 1 := by
  have := info_u8
  cases h : Tryd.prog.info? 5 with
  | none => rw [h] at this; cases this
  | some i =>
    rw [h] at this
    have hq : (i.zero, i.size, i.bytes) = (some (.int .u8 0), 1, 1) := by simpa using this
    exact ⟨i, rfl, congrArg Prod.fst hq, congrArg (fun p => p.2.1) hq, congrArg (fun p => p.2.2) hq⟩
/-- append of bytes that lie anywhere. -/
theorem append_bytes (W : World) (base : Nat) (v : Value) (l : List UInt8) (y : Addr) (n cap : Nat) (r : List UInt8) (hr : BytesAt W (some y) n r) (hc : n ≤ cap) (hown : OwnB W base v l) (hb : base ≤ W.heap.size) (hl : l.length < 900000) (hn : n < 900000) :
    ∃ v' W', (Builtin.append_ #[44, 44] 44 #[v, .slice (some y) n cap]).run Tryd.prog W = .ok v' W' ∧ OwnB W' base v' (l ++ r) ∧ Below base W W' := by
  obtain ⟨i, hi, hz, hs, hby⟩ := info_u8s
  have ho : W.ownsRow base 5 1 v l.length (valsB l) := hown
  obtain ⟨v', W', h1, h2, h3, _⟩ := run_append_own (P := Tryd.prog) W base 44 44 5 i _ 1 1 Tryd.underlying44 hi hz hs hby rfl (by decide) v l.length (valsB l) ho y n cap (valsB r) (by rw [valsB_len, hr.1]; omega) (fun j u hu => by
    have hj : j < r.length := by have := (List.getElem?_eq_some_iff.1 hu).1; rwa [valsB_len] at this
    obtain ⟨y', hy', hcell⟩ := hr.2 j (by rw [← hr.1]; exact hj)
    injection hy' with hy'
    subst hy'
    rw [hcell, ← hu]
    simp [valsB, List.getElem?_eq_getElem hj, List.getD_eq_getElem?_getD]) (by
      intro u hu
      obtain ⟨c, _, rfl⟩ := List.mem_map.1 hu
      simp [Value.oneCell']) (by simp only [maxLen]; omega) (by omega) (by omega)
  refine ⟨v', W', h1, ?_, ?_⟩
  · unfold OwnB valsB
    rw [List.map_append, List.length_append, hr.1]
    exact h2
  · exact (Below.refl base W).grown h3 hb (fun k hk => (ho.lt k hk).1)
theorem append_bytes_any (W : World) (base : Nat) (v : Value) (l : List UInt8) (a : Option Addr) (n cap : Nat) (r : List UInt8) (hr : BytesAt W a n r) (hz : a = none → cap = 0) (hc : n ≤ cap) (hown : OwnB W base v l) (hb : base ≤ W.heap.size) (hl : l.length < 900000) (hn : n < 900000) :
    ∃ v' W', (Builtin.append_ #[44, 44] 44 #[v, .slice a n cap]).run Tryd.prog W = .ok v' W' ∧ OwnB W' base v' (l ++ r) ∧ Below base W W' := by
  cases a with
  | some y => exact append_bytes W base v l y n cap r hr hc hown hb hl hn
  | none =>
    obtain rfl := hz rfl
    obtain rfl : n = 0 := by omega
    obtain rfl : r = [] := List.eq_nil_of_length_eq_zero hr.1
    obtain ⟨i, hi, _, hs, _⟩ := info_u8s
    have ho : W.ownsRow base 5 1 v l.length (valsB l) := hown
    refine ⟨v, W, run_append_owned_none (P := Tryd.prog) (w := W) base 44 44 5 i 1 Tryd.underlying44 hi v l.length (valsB l) ho, by rw [List.append_nil]; exact hown, Below.refl _ _⟩
section
variable {ops : Array Oper} {rest : List Oper} {o : Oper} {a : Act} {w : World} {Q : Exit → Act → World → Prop}
/-- append, by its run. -/
theorem wpList_append_u8 (hg : o.guard = none) (x y : Operand) (ho : o.op = .call { callee := .builtin .append, args := #[x, y], argTypes := #[44, 44] }) (hty : o.type = 44) {u v r : Value} {w' : World} (hx : a.eval x = u) (hy : a.eval y = v)
    (hc : (Builtin.append_ #[44, 44] 44 #[u, v]).run Tryd.prog w = .ok r w')
    (h : wpList Tryd.prog ops Q rest (a.put o.dst r) w') : wpList Tryd.prog ops Q (o :: rest) a w := by
  refine wpList_value hg ?_ h
  unfold execOp
  simp only [ho, hty, resolve, invoke, builtin, Sem.run_bind, Sem.run_pure, Result.andThen_ok]
  simp [hx, hy, hc, Result.andThen]
end
/-- A text as bytes, in a row of its own. -/
theorem conv_str (w : World) (u : ByteArray) : ∃ cap W, (convert 9 44 (.string u)).run Tryd.prog w = .ok (.slice (some ⟨w.heap.size, 0, none⟩) u.size cap) W ∧ BytesAt W (some ⟨w.heap.size, 0, none⟩) u.size u.data.toList ∧ Below w.heap.size w W := by
  have hr := Go.Lib.run_convert_string_bytes (P := Tryd.prog) w 9 44 5 u Tryd.underlying9 Tryd.underlying44 Tryd.underlying5
  refine ⟨_, _, hr, ⟨Array.length_toList, fun j hj => ⟨_, rfl, ?_⟩⟩, ⟨rfl, rfl, rfl, by rw [Go.Lib.bytesWorld_size]; omega, fun k hk => Go.Lib.bytesWorld_at_old w _ _ k hk⟩⟩
  rw [add_at w.heap.size j, Go.Lib.bytesWorld_cell w _ _ j hj]

set_option maxHeartbeats 2000000 in
theorem rof_any (x : Int) (hx : -9223372036854775808 ≤ x ∧ x ≤ 9223372036854775807) (u : ByteArray) (hu : u.size ≤ 1000000) (w : World) :
    Calls Tryd.prog 18 #[.int .i64 x, .string u] w fun e w' => e = .returned (.int .u64 (ofN x u.data.toList : Nat)) ∧ Below w.heap.size w w' := by
  unfold ofN
  have hs := saltN_lt x
  have hsx : IntKind.u64.wrap x = (saltN x : Int) := by rw [IntKind.wrap_u64]; unfold saltN; omega
  obtain ⟨s, hse⟩ : ∃ s, saltN x = s := ⟨_, rfl⟩
  rw [hse] at hs hsx ⊢
  clear hse
  obtain ⟨g, hg⟩ : ∃ g, chain 14695981039346656037 (saltTo s 8) = g := ⟨_, rfl⟩
  rw [hg]
  have hg : Aside (chain 14695981039346656037 (saltTo s 8) = g) := hg
  go_enter Tryd.func18, Tryd.ntmps18
  go_wp2_with fail
  go_loopw [5, 6] (fun t5 t6 wr => ∃ i : Nat, i ≤ 8 ∧ t6 = .int .i64 (7 - (i : Int)) ∧ OwnB wr w.heap.size t5 (saltTo s i) ∧ Below w.heap.size w wr) (fun _ t6 _ => ((Go.RowKit.intOf t6) + 1).toNat)
  case atStart => exact ⟨0, by omega, rfl, ownB_nil _ _, Below.refl _ _⟩
  case round =>
    obtain ⟨i, hi, rfl, ho, hB⟩ := hrel
    by_cases hlt : i < 8
    · have hlen := saltTo_len s i
      have hel : ((UInt8.ofNat (s / 2 ^ (8 * (7 - i)))).toNat : Int) = (s : Int) / 2 ^ (8 * (7 - i)) % 256 := by
        simp [UInt8.toNat_ofNat']
      have hba : BytesAt (wr.alloc (.cells #[.int .u8 ((s : Int) / 2 ^ (8 * (7 - i)) % 256)] 5)) (some ⟨wr.heap.size, 0, none⟩) 1 [UInt8.ofNat (s / 2 ^ (8 * (7 - i)))] := by
        refine ⟨rfl, fun j hj => ⟨_, rfl, ?_⟩⟩
        obtain rfl : j = 0 := by omega
        rw [add_at, World.cell?_alloc_at _ _ _ _ rfl, List.getD_cons_zero, hel]
        rfl
      obtain ⟨v2, W2, hap, ho2, hB2⟩ := append_bytes _ w.heap.size u5 (saltTo s i) ⟨wr.heap.size, 0, none⟩ 1 1 _ hba (Nat.le_refl _) (ho.below ((Below.refl _ _).alloc (Nat.le_refl _) _)) (by have := hB.size; simp; omega) (by omega) (by omega)
      rw [← saltTo_succ] at ho2
      have hBn : Below w.heap.size w W2 := (hB.alloc hB.size _).trans hB2
      clear hel hba hlen
      go_wp2_with (first | (refine wpList_append_u8 rfl _ _ rfl rfl rfl rfl hap ?_) | fail)
      exact ⟨⟨i + 1, by omega, by simp; omega, ho2, hBn⟩, by simp [Go.RowKit.intOf]; omega⟩
    · obtain rfl : i = 8 := by omega
      obtain ⟨a, cap, rfl, hba⟩ := ho.slice
      rw [saltTo_len] at hba ⊢
      have c1 := rchain_any a (saltTo s 8) 8 cap 14695981039346656037 (by omega) start_lt wr hba
      obtain ⟨cap2, W2, hcv, hb2, hB2⟩ := conv_str wr u
      have c2 := rchain_any _ u.data.toList u.size cap2 _ (by omega) (chain_lt start_lt (saltTo s 8)) W2 hb2
      rw [hg.out] at c1 c2
      go_wp2_with fail
      refine c1.mono ?_
      rintro e w' ⟨rfl, hw'⟩
      have hw' := hw'.symm
      subst hw'
      go_wp2_with fail
      refine c2.mono ?_
      rintro e w' ⟨rfl, rfl⟩
      go_wp2_with fail
      go_ret
      exact ⟨rfl, Below.then hB hB2⟩
end Go.Proofs.YtohocomemkckeaaDoor

/-! WHAT A ROW OF ONE'S OWN MAY TOUCH WHEN IT GROWS: its own block, and new ones; where it lies then. -/
namespace Go.Proofs.YtohocomemkckeaaDoor
open Go.RowKit
set_option maxRecDepth 8000
set_option linter.unusedSimpArgs false
set_option linter.unusedVariables false

/-- The row lies where it lay, or in a new block. -/
def Moved (w : World) (v v' : Value) : Prop := v'.ownBlock = v.ownBlock ∨ ∀ k, v'.ownBlock = some k → w.heap.size ≤ k
structure Grew (w : World) (v : Value) (w' : World) (v' : Value) : Prop where
  by_ : w.grownBy w' v.ownBlock
  at_ : Moved w v v'
theorem Grew.refl (w : World) (v : Value) : Grew w v w v := ⟨⟨rfl, rfl, rfl, Nat.le_refl _, fun _ _ _ => rfl⟩, .inl rfl⟩
theorem Grew.trans {w w1 w2 : World} {v v1 v2 : Value} (h : Grew w v w1 v1) (k : Grew w1 v1 w2 v2) : Grew w v w2 v2 := by
  refine ⟨⟨k.by_.os.trans h.by_.os, k.by_.tape.trans h.by_.tape, k.by_.output.trans h.by_.output, Nat.le_trans h.by_.size k.by_.size, fun j hj hne => ?_⟩, ?_⟩
  · refine (k.by_.block j (Nat.lt_of_lt_of_le hj h.by_.size) ?_).trans (h.by_.block j hj hne)
    rcases h.at_ with e | e
    · rw [e]; exact hne
    · intro hq
      have := e j hq.symm
      omega
  · rcases k.at_ with e | e
    · rcases h.at_ with e' | e'
      · exact .inl (e.trans e')
      · exact .inr fun j hj => e' j (e ▸ hj)
    · exact .inr fun j hj => Nat.le_trans h.by_.size (e j hj)
theorem Grew.alloc (w : World) (v : Value) (o : Obj) : Grew w v (w.alloc o) v := ⟨World.grownBy_alloc w o _, .inl rfl⟩
theorem Grew.drew {w w' : World} {v v' : Value} (h : Grew w v w' v') : Grew w v w'.drew v' := ⟨⟨h.by_.os, h.by_.tape, h.by_.output, h.by_.size, h.by_.block⟩, h.at_⟩
theorem Grew.cell {w w' : World} {v v' : Value} (h : Grew w v w' v') {a : Addr} (ha : a.block < w.heap.size) (hne : some a.block ≠ v.ownBlock) : w'.cell? a = w.cell? a := World.cell?_of_block (h.by_.block _ ha hne)
theorem Grew.apart {w w' : World} {v v' : Value} (h : Grew w v w' v') {g : Nat} (hg : g < w.heap.size) (hne : some g ≠ v.ownBlock) : some g ≠ v'.ownBlock := by
  rcases h.at_ with e | e
  · rw [e]; exact hne
  · intro hq
    have := e g hq.symm
    omega
theorem Grew.below {w w' : World} {v v' : Value} (h : Grew w v w' v') {base : Nat} (hb : base ≤ w.heap.size) (hv : ∀ k, v.ownBlock = some k → base ≤ k) : Below base w w' := (Below.refl base w).grown h.by_ hb hv

section
variable {P : Program} (w : World)
/-- append onto a row of one's own, wherever it lies then. -/
theorem run_append_grew (base : Nat) (t ty e : TypeId) (i : TypeInfo) (z : Value) (size bytes : Nat) (ht : P.underlying t = some (.slice e)) (hi : P.info? e = some i) (hz : i.zero = some z)
    (hsize : i.size = size) (hby : i.bytes = bytes) (hzs : z.cells.size = size) (hsz : 0 < size)
    (v : Value) (n : Nat) (xs : List Value) (hown : w.ownsRow base e size v n xs)
    (a : Addr) (m c : Nat) (news : List Value) (hl : news.length = m * size) (hnews : ∀ j u, news[j]? = some u → w.cell? (a.add j) = some u) (h1 : ∀ u ∈ news, u.oneCell' = true)
    (h63 : n + m ≤ maxLen) (hbytes : (n + m) * bytes ≤ 140737488355328) (hbase : base ≤ w.heap.size) :
    ∃ v' w', (Builtin.append_ #[t, t] ty #[v, .slice (some a) m c]).run P w = .ok v' w' ∧ w'.ownsRow base e size v' (n + m) (xs ++ news) ∧ Grew w v w' v' := by
  obtain ⟨v', w', hr, ho, hg, hq⟩ := run_append_own w base t ty e i z size bytes ht hi hz hsize hby hzs hsz v n xs hown a m c news hl hnews h1 h63 hbytes hbase
  refine ⟨v', w', hr, ho, hg, ?_⟩
  have hown' := hown
  rcases hown.2 with ⟨rfl, rfl⟩ | ⟨g, cap, cur, rfl, hbg, hgg, hnc, hcm, hcs, htake⟩
  · have hx : xs = [] := List.eq_nil_of_length_eq_zero (by simpa using hown.1)
    subst hx
    obtain ⟨v2, w2, hr2, ho2, _⟩ := run_append_own w w.heap.size t ty e i z size bytes ht hi hz hsize hby hzs hsz (.slice none 0 0) 0 [] (World.ownsRow_nil _ _ _ _) a m c news hl hnews h1 h63 hbytes (Nat.le_refl _)
    rw [hr] at hr2
    injection hr2 with e1 e2
    subst e1
    exact .inr fun k hk => (ho2.lt k hk).1
  · subst hsize
    by_cases hroom : n + m ≤ cap
    · have hfit : n * i.size + news.length ≤ cur.size := by rw [hl, hcs, ← Nat.add_mul]; exact Nat.mul_le_mul_right _ hroom
      have hr2 := run_append_room (P := P) w t ty e i ht hi g n cap cur hgg a m c news hl hnews h1 hroom hfit
      rw [hr] at hr2
      injection hr2 with e1 e2
      subst e1
      exact .inl rfl
    · have holds : ∀ j u, xs[j]? = some u → w.cell? ((⟨g, 0, none⟩ : Addr).add j) = some u := hown'.cells (g := g) rfl
      subst hby
      have hr2 := run_append_grow (P := P) w t ty e i z ht hi hz ⟨g, 0, none⟩ n cap xs hown'.1 holds a m c news hl hnews (by omega) (by simp only [maxLen] at h63; omega) (growslice_fits (by omega) hbytes)
      rw [hr] at hr2
      injection hr2 with e1 e2
      subst e1
      refine .inr fun k hk => ?_
      simp [Value.ownBlock] at hk
      omega
theorem run_append_str_grew (base : Nat) (t u ty e : TypeId) (i : TypeInfo) (ht : P.underlying t = some (.slice e)) (hu : P.underlying u = some .string) (hi : P.info? e = some i) (hz : i.zero = some (.int .u8 0))
    (hsize : i.size = 1) (hby : i.bytes = 1)
    (v : Value) (n : Nat) (xs : List Value) (hown : w.ownsRow base e 1 v n xs) (s : ByteArray)
    (h63 : n + s.size ≤ maxLen) (hbytes : n + s.size ≤ 140737488355328) (hbase : base ≤ w.heap.size) :
    ∃ v' w', (Builtin.append_ #[t, u] ty #[v, .string s]).run P w = .ok v' w' ∧ w'.ownsRow base e 1 v' (n + s.size) (xs ++ Go.Lib.strCells s) ∧ Grew w v w' v' := by
  obtain ⟨v', w', hr, ho, hg, hq⟩ := Go.Lib.run_append_own_string w base t u ty e i ht hu hi hz hsize hby v n xs hown s h63 hbytes hbase
  refine ⟨v', w', hr, ho, hg, ?_⟩
  have hown' := hown
  rcases hown.2 with ⟨rfl, rfl⟩ | ⟨g, cap, cur, rfl, hbg, hgg, hnc, hcm, hcs, htake⟩
  · have hx : xs = [] := List.eq_nil_of_length_eq_zero (by simpa using hown.1)
    subst hx
    obtain ⟨v2, w2, hr2, ho2, _⟩ := Go.Lib.run_append_own_string w w.heap.size t u ty e i ht hu hi hz hsize hby (.slice none 0 0) 0 [] (World.ownsRow_nil _ _ _ _) s h63 hbytes (Nat.le_refl _)
    rw [hr] at hr2
    injection hr2 with e1 e2
    subst e1
    exact .inr fun k hk => (ho2.lt k hk).1
  · by_cases hroom : n + s.size ≤ cap
    · have hcs' : cur.size = cap := by simpa using hcs
      have hr2 := Go.Lib.run_append_room_string (P := P) w t u ty e i ht hu hi hsize g n cap cur hgg s hroom (by omega)
      rw [hr] at hr2
      injection hr2 with e1 e2
      subst e1
      exact .inl rfl
    · have holds : ∀ j u, xs[j]? = some u → w.cell? ((⟨g, 0, none⟩ : Addr).add j) = some u := hown'.cells (g := g) rfl
      have hr2 := Go.Lib.run_append_grow_string (P := P) w t u ty e i (.int .u8 0) ht hu hi hz ⟨g, 0, none⟩ n cap xs (by rw [hsize]; exact hown'.1) holds s (by omega) (by simp only [maxLen] at h63; omega) (by rw [hby]; exact growslice_fits (by omega) (by omega))
      rw [hr] at hr2
      injection hr2 with e1 e2
      subst e1
      refine .inr fun k hk => ?_
      simp [Value.ownBlock] at hk
      omega
end
end Go.Proofs.YtohocomemkckeaaDoor

/-! WHAT IS WRITTEN BEHIND BYTES: a text, a label, a number (donjonref10). -/
namespace Go.Proofs.YtohocomemkckeaaDoor
open Go.RowKit
set_option maxRecDepth 8000
set_option linter.unusedSimpArgs false
set_option linter.unusedVariables false

/-- A number's lowest eight bits. -/
def lowB (x : Int) : UInt8 := UInt8.ofNat (x % 256).toNat
theorem lowB_nat (x : Int) : ((lowB x).toNat : Int) = x % 256 := by
  unfold lowB
  simp [UInt8.toNat_ofNat']
  omega
def encT (s : ByteArray) : List UInt8 := lowB s.size :: s.data.toList
def encL (l : Lab) : List UInt8 := [lowB l.s, lowB l.c, lowB l.i, lowB l.k]
def encW (n : Int) : List UInt8 := saltTo (saltN n) 8
theorem encT_len (s : ByteArray) : (encT s).length = s.size + 1 := by simp [encT]
theorem encL_len (l : Lab) : (encL l).length = 4 := rfl
theorem encW_len (n : Int) : (encW n).length = 8 := saltTo_len _ _
theorem wrap_u8 (x : Int) : IntKind.u8.wrap x = ((lowB x).toNat : Int) := by rw [lowB_nat, IntKind.wrap_u8]

/-- append of bytes that lie anywhere. -/
theorem append_at (W : World) (base : Nat) (v : Value) (l : List UInt8) (y : Addr) (n cap : Nat) (r : List UInt8) (hr : BytesAt W (some y) n r) (hown : OwnB W base v l) (hb : base ≤ W.heap.size) (hl : l.length < 900000) (hn : n < 900000) :
    ∃ v' W', (Builtin.append_ #[44, 44] 44 #[v, .slice (some y) n cap]).run Tryd.prog W = .ok v' W' ∧ OwnB W' base v' (l ++ r) ∧ Grew W v W' v' := by
  obtain ⟨i, hi, hz, hs, hby⟩ := info_u8s
  have ho : W.ownsRow base 5 1 v l.length (valsB l) := hown
  obtain ⟨v', W', h1, h2, h3⟩ := run_append_grew (P := Tryd.prog) W base 44 44 5 i _ 1 1 Tryd.underlying44 hi hz hs hby rfl (by decide) v l.length (valsB l) ho y n cap (valsB r) (by rw [valsB_len, hr.1]; omega) (fun j u hu => by
    have hj : j < r.length := by have := (List.getElem?_eq_some_iff.1 hu).1; rwa [valsB_len] at this
    obtain ⟨y', hy', hcell⟩ := hr.2 j (by rw [← hr.1]; exact hj)
    injection hy' with hy'
    subst hy'
    rw [hcell, ← hu]
    simp [valsB, List.getElem?_eq_getElem hj, List.getD_eq_getElem?_getD]) (by
      intro u hu
      obtain ⟨c, _, rfl⟩ := List.mem_map.1 hu
      simp [Value.oneCell']) (by simp only [maxLen]; omega) (by omega) hb
  refine ⟨v', W', h1, ?_, h3⟩
  unfold OwnB valsB
  rw [List.map_append, List.length_append, hr.1]
  exact h2
theorem bytes_made (W : World) (r : List UInt8) (cs : Array Value) (hcs : cs = (valsB r).toArray) : BytesAt (W.alloc (.cells cs 5)) (some ⟨W.heap.size, 0, none⟩) r.length r := by
  refine ⟨rfl, fun j hj => ⟨_, rfl, ?_⟩⟩
  rw [add_at, World.cell?_alloc_at _ _ _ _ rfl, hcs]
  simp [valsB, List.getElem?_eq_getElem hj, List.getD_eq_getElem?_getD]
theorem BytesAt.grew {W W' : World} {v v' : Value} {g n : Nat} {l : List UInt8} (h : BytesAt W (some ⟨g, 0, none⟩) n l) (k : Grew W v W' v') (hg : g < W.heap.size) (hne : some g ≠ v.ownBlock) : BytesAt W' (some ⟨g, 0, none⟩) n l := by
  refine ⟨h.1, fun j hj => ?_⟩
  obtain ⟨y, hy, hc⟩ := h.2 j hj
  refine ⟨y, hy, ?_⟩
  obtain rfl := Option.some.inj hy
  rw [add_at] at hc ⊢
  rw [k.cell (a := ⟨g, j, none⟩) hg hne]
  exact hc
theorem Grew.ownB {W W' : World} {v v' : Value} (k : Grew W v W' v') {base : Nat} {l : List UInt8} (h : OwnB W base v l) (hb : base ≤ W.heap.size) : Below base W W' := k.below hb fun j hj => (World.ownsRow.lt (show W.ownsRow base 5 1 v l.length (valsB l) from h) j hj).1
theorem OwnB.apart {W : World} {base : Nat} {v : Value} {l : List UInt8} (h : OwnB W base v l) : some W.heap.size ≠ v.ownBlock := fun e => by
  have := (World.ownsRow.lt (show W.ownsRow base 5 1 v l.length (valsB l) from h) _ e.symm).2
  omega
/-- append of a row that was just made. -/
theorem append_made (W : World) (base : Nat) (v : Value) (l : List UInt8) (r : List UInt8) (cs : Array Value) (hcs : cs = (valsB r).toArray) (hown : OwnB W base v l) (hb : base ≤ W.heap.size) (hl : l.length < 900000) (hn : r.length < 900000) :
    ∃ v' W', (Builtin.append_ #[44, 44] 44 #[v, .slice (some ⟨W.heap.size, 0, none⟩) r.length r.length]).run Tryd.prog (W.alloc (.cells cs 5)) = .ok v' W' ∧ OwnB W' base v' (l ++ r) ∧ Grew W v W' v' := by
  obtain ⟨v', W', h1, h2, h3⟩ := append_at _ base v l ⟨W.heap.size, 0, none⟩ r.length r.length r (bytes_made W r cs hcs) (hown.below (alloc_below _ _)) (by simp; omega) hl hn
  exact ⟨v', W', h1, h2, (Grew.alloc W v _).trans h3⟩
/-- append of a text's bytes. -/
theorem append_text (W : World) (base : Nat) (v : Value) (l : List UInt8) (s : ByteArray) (hown : OwnB W base v l) (hb : base ≤ W.heap.size) (hl : l.length < 900000) (hn : s.size < 900000) :
    ∃ v' W', (Builtin.append_ #[44, 9] 44 #[v, .string s]).run Tryd.prog W = .ok v' W' ∧ OwnB W' base v' (l ++ s.data.toList) ∧ Grew W v W' v' := by
  obtain ⟨i, hi, hz, hs, hby⟩ := info_u8s
  have ho : W.ownsRow base 5 1 v l.length (valsB l) := hown
  obtain ⟨v', W', h1, h2, h3⟩ := run_append_str_grew (P := Tryd.prog) W base 44 9 44 5 i Tryd.underlying44 Tryd.underlying9 hi hz hs hby v l.length (valsB l) ho s (by simp only [maxLen]; omega) (by omega) hb
  refine ⟨v', W', h1, ?_, h3⟩
  unfold OwnB valsB
  rw [List.map_append, List.length_append, Array.length_toList]
  exact h2
section
variable {ops : Array Oper} {rest : List Oper} {o : Oper} {a : Act} {w : World} {Q : Exit → Act → World → Prop}
theorem step_append_u8 {K : Act → World → Prop} {E : Prop} (hg : o.guard = none) (s x : Operand) (hop : o.op = Op.call { callee := Callee.builtin Builtin.append, args := #[s, x], argTypes := #[44, 44] }) (hty : o.type = 44) {u v r : Value} {w' : World} (hs : a.eval s = u) (hx : a.eval x = v)
    (hrun : (Builtin.append_ #[44, 44] 44 #[u, v]).run Tryd.prog w = .ok r w') (hK : K (a.put o.dst r) w') :
    if Region.wanted o (yielded ops a.tmps) = true then Oper.wp Tryd.prog o a w K Q else E := by
  have hw : Region.wanted o (yielded ops a.tmps) = true := by simp [Region.wanted, hg]
  rw [if_pos hw]
  unfold Oper.wp
  simp [execOp, hop, hty, resolve, invoke, builtin, hs, hx, hrun, Result.andThen]
  exact hK
/-- append of a text, by its run. -/
theorem wpList_append_txt (hg : o.guard = none) (x y : Operand) (ho : o.op = .call { callee := .builtin .append, args := #[x, y], argTypes := #[44, 9] }) (hty : o.type = 44) {u v r : Value} {w' : World} (hx : a.eval x = u) (hy : a.eval y = v)
    (hc : (Builtin.append_ #[44, 9] 44 #[u, v]).run Tryd.prog w = .ok r w')
    (h : wpList Tryd.prog ops Q rest (a.put o.dst r) w') : wpList Tryd.prog ops Q (o :: rest) a w := by
  refine wpList_value hg ?_ h
  unfold execOp
  simp only [ho, hty, resolve, invoke, builtin, Sem.run_bind, Sem.run_pure, Result.andThen_ok]
  simp [hx, hy, hc, Result.andThen]
end

set_option maxHeartbeats 1000000 in
theorem rtext_any (base : Nat) (v : Value) (l : List UInt8) (s : ByteArray) (hs : s.size < 100000) (hl : l.length < 800000) (w : World) (hown : OwnB w base v l) (hb : base ≤ w.heap.size) :
    Calls Tryd.prog 29 #[v, .string s] w fun e w' => ∃ v', e = .returned v' ∧ OwnB w' base v' (l ++ encT s) ∧ Grew w v w' v' := by
  have hwr := wrap_u8 (s.size : Int)
  obtain ⟨v1, W1, ha1, ho1, hB1⟩ := append_made w base v l [lowB s.size] #[.int .u8 ((lowB s.size).toNat : Int)] rfl hown hb (by omega) (by simp)
  obtain ⟨v2, W2, ha2, ho2, hB2⟩ := append_text W1 base v1 (l ++ [lowB s.size]) s ho1 (Nat.le_trans hb hB1.by_.size) (by simp; omega) (by omega)
  rw [List.append_assoc] at ho2
  have hBn := hB1.trans hB2
  have hlen : ([lowB s.size] : List UInt8).length = 1 := rfl
  rw [hlen] at ha1
  have ho2 : OwnB W2 base v2 (l ++ encT s) := ho2
  go_enter Tryd.func29, Tryd.ntmps29
  go_wp2_with (first | (refine wpList_append_u8 rfl _ _ rfl rfl rfl rfl ha1 ?_) | (refine wpList_append_txt rfl _ _ rfl rfl rfl rfl ha2 ?_) | fail)
  go_ret
  exact ⟨_, rfl, ho2, hBn⟩

set_option maxHeartbeats 1000000 in
theorem rlab_any (base : Nat) (v : Value) (l : List UInt8) (x : Lab) (hl : l.length < 800000) (w : World) (hown : OwnB w base v l) (hb : base ≤ w.heap.size) :
    Calls Tryd.prog 30 #[v, x.v] w fun e w' => ∃ v', e = .returned v' ∧ OwnB w' base v' (l ++ encL x) ∧ Grew w v w' v' := by
  obtain ⟨s, c, i, k⟩ := x
  have h1 := wrap_u8 s
  have h2 := wrap_u8 c
  have h3 := wrap_u8 i
  have h4 := wrap_u8 k
  have hB0 := alloc_below w (.cells #[.int .i64 s, .int .i64 c, .int .i64 i, .int .i64 k] 23)
  obtain ⟨v1, W1, ha1, ho1, hB1⟩ := append_made (w.alloc (.cells #[.int .i64 s, .int .i64 c, .int .i64 i, .int .i64 k] 23)) base v l (encL ⟨s, c, i, k⟩) #[.int .u8 ((lowB s).toNat : Int), .int .u8 ((lowB c).toNat : Int), .int .u8 ((lowB i).toNat : Int), .int .u8 ((lowB k).toNat : Int)] rfl (hown.below hB0) (by simp; omega) (by omega) (by simp [encL])
  have hBn := (Grew.alloc w v _).trans hB1
  rw [encL_len] at ha1
  rw [World.size_alloc] at ha1
  clear hB0
  go_enter Tryd.func30, Tryd.ntmps30
  go_wp2_with (first | (refine wpList_append_u8 rfl _ _ rfl rfl rfl rfl ha1 ?_) | fail)
  go_ret
  exact ⟨_, rfl, ho1, hBn⟩

set_option maxHeartbeats 2000000 in
theorem rnum_any (base : Nat) (v : Value) (l : List UInt8) (x : Int) (hl : l.length < 800000) (w : World) (hown : OwnB w base v l) (hb : base ≤ w.heap.size) :
    Calls Tryd.prog 31 #[v, .int .i64 x] w fun e w' => ∃ v', e = .returned v' ∧ OwnB w' base v' (l ++ encW x) ∧ Grew w v w' v' := by
  unfold encW
  have hs := saltN_lt x
  have hsx : IntKind.u64.wrap x = (saltN x : Int) := by rw [IntKind.wrap_u64]; unfold saltN; omega
  obtain ⟨s, hse⟩ : ∃ s, saltN x = s := ⟨_, rfl⟩
  rw [hse] at hs hsx ⊢
  clear hse
  go_enter Tryd.func31, Tryd.ntmps31
  go_wp2_with fail
  go_loopw [0, 5] (fun t0 t5 wr => ∃ i : Nat, i ≤ 8 ∧ t5 = .int .i64 (7 - (i : Int)) ∧ OwnB wr base t0 (l ++ saltTo s i) ∧ Grew w v wr t0) (fun _ t5 _ => ((Go.RowKit.intOf t5) + 1).toNat)
  case atStart => exact ⟨0, by omega, rfl, by simpa [saltTo] using hown, Grew.refl _ _⟩
  case round =>
    obtain ⟨i, hi, rfl, ho, hB⟩ := hrel
    by_cases hlt : i < 8
    · have hlen := saltTo_len s i
      have hel : ((UInt8.ofNat (s / 2 ^ (8 * (7 - i)))).toNat : Int) = (s : Int) / 2 ^ (8 * (7 - i)) % 256 := by
        simp [UInt8.toNat_ofNat']
      obtain ⟨v2, W2, hap, ho2, hB2⟩ := append_made wr base u0 (l ++ saltTo s i) [UInt8.ofNat (s / 2 ^ (8 * (7 - i)))] #[.int .u8 ((s : Int) / 2 ^ (8 * (7 - i)) % 256)] (by rw [← hel]; rfl) ho (Nat.le_trans hb hB.by_.size) (by rw [List.length_append, hlen]; omega) (by simp)
      rw [List.append_assoc, ← saltTo_succ] at ho2
      have hBn : Grew w v W2 v2 := hB.trans hB2
      have h1 : ([UInt8.ofNat (s / 2 ^ (8 * (7 - i)))] : List UInt8).length = 1 := rfl
      rw [h1] at hap
      clear hel hlen h1
      go_wp2_with (first | (refine wpList_append_u8 rfl _ _ rfl rfl rfl rfl hap ?_) | fail)
      exact ⟨⟨i + 1, by omega, by simp; omega, ho2, hBn⟩, by simp [Go.RowKit.intOf]; omega⟩
    · obtain rfl : i = 8 := by omega
      go_wp2_with fail
      go_ret
      exact ⟨_, rfl, ho, hB⟩
end Go.Proofs.YtohocomemkckeaaDoor

/-! MESSAGES, WRITTEN: the document's own EncodeMessage (donjonref10). -/
namespace Go.Proofs.YtohocomemkckeaaDoor
open Go.RowKit
set_option maxRecDepth 8000
set_option linter.unusedSimpArgs false
set_option linter.unusedVariables false

theorem OwnB.lower {w : World} {base b : Nat} {v : Value} {l : List UInt8} (h : OwnB w base v l) (hb : b ≤ base) : OwnB w b v l := by
  refine ⟨h.1, ?_⟩
  rcases h.2 with h1 | ⟨g, cap, cur, hv, hg, rest⟩
  · exact .inl h1
  · exact .inr ⟨g, cap, cur, hv, Nat.le_trans hb hg, rest⟩
/-- A message. -/
structure Msg where
  from_ : ByteArray
  label : Lab
  to_ : ByteArray
  box : Lab
  text : ByteArray
abbrev Msg.v (m : Msg) : Value := .agg #[.string m.from_, .int .i64 m.label.s, .int .i64 m.label.c, .int .i64 m.label.i, .int .i64 m.label.k, .string m.to_, .int .i64 m.box.s, .int .i64 m.box.c, .int .i64 m.box.i, .int .i64 m.box.k, .string m.text]
structure Msg.Small (m : Msg) : Prop where
  f : m.from_.size < 100000
  t : m.to_.size < 100000
  x : m.text.size < 100000
def encM (m : Msg) : List UInt8 := encT m.from_ ++ encL m.label ++ encT m.to_ ++ encL m.box ++ encT m.text
abbrev MBox (W : World) (g : Nat) (m : Msg) : Prop := W.cell? ⟨g, 0, none⟩ = some (.string m.from_) ∧ W.cell? ⟨g, 1, none⟩ = some (.int .i64 m.label.s) ∧ W.cell? ⟨g, 2, none⟩ = some (.int .i64 m.label.c) ∧ W.cell? ⟨g, 3, none⟩ = some (.int .i64 m.label.i) ∧ W.cell? ⟨g, 4, none⟩ = some (.int .i64 m.label.k) ∧ W.cell? ⟨g, 5, none⟩ = some (.string m.to_) ∧ W.cell? ⟨g, 6, none⟩ = some (.int .i64 m.box.s) ∧ W.cell? ⟨g, 7, none⟩ = some (.int .i64 m.box.c) ∧ W.cell? ⟨g, 8, none⟩ = some (.int .i64 m.box.i) ∧ W.cell? ⟨g, 9, none⟩ = some (.int .i64 m.box.k) ∧ W.cell? ⟨g, 10, none⟩ = some (.string m.text)
theorem MBox.keep {W W' : World} {g : Nat} {m : Msg} (h : MBox W g m) (b : Below (g + 1) W W') : MBox W' g m := by
  obtain ⟨h0, h1, h2, h3, h4, h5, h6, h7, h8, h9, h10⟩ := h
  have c : ∀ k, W'.cell? ⟨g, k, none⟩ = W.cell? ⟨g, k, none⟩ := fun k => b.cell (p := ⟨g, k, none⟩) (Nat.lt_succ_self g)
  exact ⟨(c _).trans h0, (c _).trans h1, (c _).trans h2, (c _).trans h3, (c _).trans h4, (c _).trans h5, (c _).trans h6, (c _).trans h7, (c _).trans h8, (c _).trans h9, (c _).trans h10⟩
def mcells (m : Msg) : Array Value := #[.string m.from_, .int .i64 m.label.s, .int .i64 m.label.c, .int .i64 m.label.i, .int .i64 m.label.k, .string m.to_, .int .i64 m.box.s, .int .i64 m.box.c, .int .i64 m.box.i, .int .i64 m.box.k, .string m.text]
theorem mbox_alloc (w : World) (m : Msg) (T : TypeId) : MBox (w.alloc (.cells (mcells m) T)) w.heap.size m := by
  refine ⟨?_, ?_, ?_, ?_, ?_, ?_, ?_, ?_, ?_, ?_, ?_⟩ <;> (rw [World.cell?_alloc_at _ _ _ _ rfl]; rfl)

end Go.Proofs.YtohocomemkckeaaDoor

/-! ENTRIES, WRITTEN: the document's own EncodeEntry (donjonref10). Written by mk_nenc.py. -/
namespace Go.Proofs.YtohocomemkckeaaDoor
open Go.RowKit
set_option maxRecDepth 8000
set_option linter.unusedSimpArgs false
set_option linter.unusedVariables false

/-- An entry of a log. -/
structure Ent where
  seq : Int
  label : Lab
  user : ByteArray
  verb : Int
  object : ByteArray
  verdict : Int
abbrev Ent.v (e : Ent) : Value := .agg #[.int .i64 e.seq, .int .i64 e.label.s, .int .i64 e.label.c, .int .i64 e.label.i, .int .i64 e.label.k, .string e.user, .int .i64 e.verb, .string e.object, .int .i64 e.verdict]
structure Ent.Small (e : Ent) : Prop where
  u : e.user.size < 100000
  o : e.object.size < 100000
def encE (e : Ent) : List UInt8 := encW e.seq ++ encL e.label ++ encT e.user ++ [lowB e.verb] ++ encT e.object ++ [lowB e.verdict]
abbrev EBox (W : World) (g : Nat) (e : Ent) : Prop := W.cell? ⟨g, 0, none⟩ = some (.int .i64 e.seq) ∧ W.cell? ⟨g, 1, none⟩ = some (.int .i64 e.label.s) ∧ W.cell? ⟨g, 2, none⟩ = some (.int .i64 e.label.c) ∧ W.cell? ⟨g, 3, none⟩ = some (.int .i64 e.label.i) ∧ W.cell? ⟨g, 4, none⟩ = some (.int .i64 e.label.k) ∧ W.cell? ⟨g, 5, none⟩ = some (.string e.user) ∧ W.cell? ⟨g, 6, none⟩ = some (.int .i64 e.verb) ∧ W.cell? ⟨g, 7, none⟩ = some (.string e.object) ∧ W.cell? ⟨g, 8, none⟩ = some (.int .i64 e.verdict)
theorem EBox.keep {W W' : World} {g : Nat} {e : Ent} (h : EBox W g e) (b : Below (g + 1) W W') : EBox W' g e := by
  obtain ⟨h0, h1, h2, h3, h4, h5, h6, h7, h8⟩ := h
  have c : ∀ k, W'.cell? ⟨g, k, none⟩ = W.cell? ⟨g, k, none⟩ := fun k => b.cell (p := ⟨g, k, none⟩) (Nat.lt_succ_self g)
  exact ⟨(c _).trans h0, (c _).trans h1, (c _).trans h2, (c _).trans h3, (c _).trans h4, (c _).trans h5, (c _).trans h6, (c _).trans h7, (c _).trans h8⟩
def ecells (e : Ent) : Array Value := #[.int .i64 e.seq, .int .i64 e.label.s, .int .i64 e.label.c, .int .i64 e.label.i, .int .i64 e.label.k, .string e.user, .int .i64 e.verb, .string e.object, .int .i64 e.verdict]
theorem ebox_alloc (w : World) (e : Ent) (T : TypeId) : EBox (w.alloc (.cells (ecells e) T)) w.heap.size e := by
  refine ⟨?_, ?_, ?_, ?_, ?_, ?_, ?_, ?_, ?_⟩ <;> (rw [World.cell?_alloc_at _ _ _ _ rfl]; rfl)

set_option maxHeartbeats 4000000 in
theorem rencE_any (e : Ent) (hm : e.Small) (w : World) :
    Calls Tryd.prog 20 #[e.v] w fun r w' => ∃ v', r = .returned v' ∧ OwnB w' w.heap.size v' (encE e) ∧ Below w.heap.size w w' := by
  have hu := hm.u
  have hj := hm.o
  have hS : EBox (w.alloc (.cells (ecells e) 26)) w.heap.size e := ebox_alloc w e _
  have hB0 : Below w.heap.size w (w.alloc (.cells (ecells e) 26)) := alloc_below _ _
  have hz : (w.alloc (.cells (ecells e) 26)).heap.size = w.heap.size + 1 := World.size_alloc _ _
  have wv := wrap_u8 e.verb
  have wd := wrap_u8 e.verdict
  unfold ecells at hS hB0 hz
  go_enter Tryd.func20, Tryd.ntmps20
  go_wp2_with fail
  generalize w.alloc (.cells #[.int .i64 e.seq, .int .i64 e.label.s, .int .i64 e.label.c, .int .i64 e.label.i, .int .i64 e.label.k, .string e.user, .int .i64 e.verb, .string e.object, .int .i64 e.verdict] 26) = W at *
  go_cut [3] from 4 (fun s3 wc => ∃ v, s3 = v ∧ EBox wc w.heap.size e ∧ w.heap.size + 1 ≤ wc.heap.size ∧ OwnB wc (w.heap.size + 1) v (encW e.seq ++ encL e.label ++ encT e.user ++ [lowB e.verb]) ∧ Below w.heap.size w wc)
  case first =>
    have hS0 : EBox W.drew w.heap.size e := hS
    replace hB0 : Below w.heap.size w W.drew := hB0.drew
    have hz0 : w.heap.size + 1 ≤ W.drew.heap.size := by show w.heap.size + 1 ≤ W.heap.size; omega
    have ho0 : OwnB W.drew (w.heap.size + 1) (.slice none 0 0) [] := ownB_nil _ _
    clear hS hz
    refine wp_region_held_drew (S := (fun W => EBox W w.heap.size e)) (by kernel_rfl) (by exact hS0) ?_
    intro hHeld
    generalize W.drew = w0 at *
    refine wpAnyH_take (i := 0) (v := ?_) (by simp only [gA, gB, gC]; rfl) (by kernel_rfl) (by kernel_rfl) (by kernel_rfl) (by exact fun _ _ _ h => h) (Or.inl ⟨by rfl, ?_⟩) (by assumption) ?_; rotate_left; (focus (intro w hSw; (try dsimp only at hSw); go_simp; try with_reducible rfl)); (try simp only [Act.put, sA, sB, sC])
    refine wpAnyH_take (i := 1) (v := ?_) (by simp only [gA, gB, gC]; rfl) (by kernel_rfl) (by kernel_rfl) (by kernel_rfl) (by exact fun _ _ _ h => h) (Or.inl ⟨by rfl, ?_⟩) (by assumption) ?_; rotate_left; (focus (intro w hSw; (try dsimp only at hSw); go_simp; try with_reducible rfl)); (try simp only [Act.put, sA, sB, sC])
    refine wpAnyH_take (i := 3) (v := ?_) (by simp only [gA, gB, gC]; rfl) (by kernel_rfl) (by kernel_rfl) (by kernel_rfl) (by exact fun _ _ _ h => h) (Or.inl ⟨by rfl, ?_⟩) (by assumption) ?_; rotate_left; (focus (intro w hSw; (try dsimp only at hSw); go_simp; try with_reducible rfl)); (try simp only [Act.put, sA, sB, sC])
    refine wpAnyH_take (i := 4) (v := ?_) (by simp only [gA, gB, gC]; rfl) (by kernel_rfl) (by kernel_rfl) (by kernel_rfl) (by exact fun _ _ _ h => h) (Or.inl ⟨by rfl, ?_⟩) (by assumption) ?_; rotate_left; (focus (intro w hSw; (try dsimp only at hSw); go_simp; try with_reducible rfl)); (try simp only [Act.put, sA, sB, sC])
    refine wpAnyH_take (i := 6) (v := ?_) (by simp only [gA, gB, gC]; rfl) (by kernel_rfl) (by kernel_rfl) (by kernel_rfl) (by exact fun _ _ _ h => h) (Or.inl ⟨by rfl, ?_⟩) (by assumption) ?_; rotate_left; (focus (intro w hSw; (try dsimp only at hSw); go_simp; try with_reducible rfl)); (try simp only [Act.put, sA, sB, sC])
    refine wpAnyH_take (i := 7) (v := ?_) (by simp only [gA, gB, gC]; rfl) (by kernel_rfl) (by kernel_rfl) (by kernel_rfl) (by exact fun _ _ _ h => h) (Or.inl ⟨by rfl, ?_⟩) (by assumption) ?_; rotate_left; (focus (intro w hSw; (try dsimp only at hSw); go_simp; try with_reducible rfl)); (try simp only [Act.put, sA, sB, sC])
    refine wpAnyH_take (i := 9) (v := ?_) (by simp only [gA, gB, gC]; rfl) (by kernel_rfl) (by kernel_rfl) (by kernel_rfl) (by exact fun _ _ _ h => h) (Or.inl ⟨by rfl, ?_⟩) (by assumption) ?_; rotate_left; (focus (intro w hSw; (try dsimp only at hSw); go_simp; try with_reducible rfl)); (try simp only [Act.put, sA, sB, sC])
    refine wpAnyH_take (i := 10) (v := ?_) (by simp only [gA, gB, gC]; rfl) (by kernel_rfl) (by kernel_rfl) (by kernel_rfl) (by exact fun _ _ _ h => h) (Or.inl ⟨by rfl, ?_⟩) (by assumption) ?_; rotate_left; (focus (intro w hSw; (try dsimp only at hSw); go_simp; try with_reducible rfl)); (try simp only [Act.put, sA, sB, sC])
    refine wpAnyH_take (i := 11) (v := ?_) (by simp only [gA, gB, gC]; rfl) (by kernel_rfl) (by kernel_rfl) (by kernel_rfl) (by exact fun _ _ _ h => h) (Or.inl ⟨by rfl, ?_⟩) (by assumption) ?_; rotate_left; (focus (intro w hSw; (try dsimp only at hSw); go_simp; try with_reducible rfl)); (try simp only [Act.put, sA, sB, sC])
    refine wpAnyH_ready (rs := [2, 12]) (by kernel_rfl) (by simp) ?_
    refine AllReadyH.cons (by simp only [gA, gB, gC]; rfl) (fun K hK => ?_) ?_
    · go_simp
      go_at_call 31
      refine (rnum_any (w.heap.size + 1) _ [] e.seq (by (try simp [encT_len, encL_len, encW_len]) <;> omega) _ ho0 hz0).mono ?_
      rintro e w1 ⟨v1, rfl, ho1, hg1⟩
      have hb1 := hg1.ownB ho0 hz0
      have hS1 := EBox.keep hS0 hb1
      have hz1 := Nat.le_trans hz0 hb1.size
      have hP1 := hb1
      refine hK.out _ _ (hS1) ?_
      clear hHeld hK
      intro hHeld
      (try simp only [Act.put, sA, sB, sC])
      refine wpAnyH_ready (rs := [5, 12]) (by kernel_rfl) (by simp) ?_
      refine AllReadyH.cons (by simp only [gA, gB, gC]; rfl) (fun K hK => ?_) ?_
      · go_simp
        go_at_call 30
        refine (rlab_any (w.heap.size + 1) _ ([] ++ encW e.seq) e.label (by (try simp [encT_len, encL_len, encW_len]) <;> omega) _ ho1 hz1).mono ?_
        rintro e w2 ⟨v2, rfl, ho2, hg2⟩
        have hb2 := hg2.ownB ho1 hz1
        have hS2 := EBox.keep hS1 hb2
        have hz2 := Nat.le_trans hz1 hb2.size
        have hP2 := hP1.trans hb2
        refine hK.out _ _ (hS2) ?_
        clear hHeld hK
        intro hHeld
        (try simp only [Act.put, sA, sB, sC])
        refine wpAnyH_ready (rs := [8, 12]) (by kernel_rfl) (by simp) ?_
        refine AllReadyH.cons (by simp only [gA, gB, gC]; rfl) (fun K hK => ?_) ?_
        · go_simp
          go_at_call 29
          refine (rtext_any (w.heap.size + 1) _ (([] ++ encW e.seq) ++ encL e.label) e.user (by omega) (by (try simp [encT_len, encL_len, encW_len]) <;> omega) _ ho2 hz2).mono ?_
          rintro e w3 ⟨v3, rfl, ho3, hg3⟩
          have hb3 := hg3.ownB ho2 hz2
          have hS3 := EBox.keep hS2 hb3
          have hz3 := Nat.le_trans hz2 hb3.size
          have hP3 := hP2.trans hb3
          refine hK.out _ _ (hS3) ?_
          clear hHeld hK
          intro hHeld
          (try simp only [Act.put, sA, sB, sC])
          refine wpAnyH_ready (rs := [12]) (by kernel_rfl) (by simp) ?_
          refine AllReadyH.cons (by simp only [gA, gB, gC]; rfl) (fun K hK => ?_) AllReadyH.nil
          go_simp
          refine hK.out _ _ (EBox.keep hS3 ((alloc_below _ _).mono hz3)) ?_
          clear hHeld hK
          intro hHeld
          have hbm := bytes_made w3 [lowB e.verb] #[.int .u8 ((lowB e.verb).toNat : Int)] rfl
          have hpn := ho3.apart
          have hpl : w3.heap.size < (w3.alloc (.cells #[.int .u8 ((lowB e.verb).toNat : Int)] 5)).heap.size := by rw [World.size_alloc]; exact Nat.lt_succ_self _
          have hb4 := (alloc_below w3 (.cells #[.int .u8 ((lowB e.verb).toNat : Int)] 5)).mono hz3
          have ho4 := ho3.below (alloc_below w3 (.cells #[.int .u8 ((lowB e.verb).toNat : Int)] 5))
          have hS4 := EBox.keep hS3 hb4
          have hz4 := Nat.le_trans hz3 hb4.size
          have hP4 := hP3.trans hb4
          generalize hw4 : w3.alloc (.cells #[.int .u8 ((lowB e.verb).toNat : Int)] 5) = w4 at *
          generalize hp : w3.heap.size = p at *
          rw [show ([lowB e.verb] : List UInt8).length = 1 from rfl] at hbm
          clear hw4 hp
          obtain ⟨vz, wz, hap, hoz, hgz⟩ := append_at w4 (w.heap.size + 1) _ ((([] ++ encW e.seq) ++ encL e.label) ++ encT e.user) ⟨p, 0, none⟩ 1 1 [lowB e.verb] hbm ho4 hz4 (by (try simp [encT_len, encL_len, encW_len]) <;> omega) (by omega)
          have hbz := hgz.ownB ho4 hz4
          have hSz := EBox.keep hS4 hbz
          have hzz := Nat.le_trans hz4 hbz.size
          have hB := hP4.trans hbz
          (try simp only [Act.put, sA, sB, sC])
          refine wpAnyH_ready (rs := [13]) (by kernel_rfl) (by simp) ?_
          refine AllReadyH.cons (by simp only [gA, gB, gC]; rfl) (fun K hK => ?_) AllReadyH.nil
          refine step_append_u8 rfl _ _ rfl rfl rfl rfl hap ?_
          (try simp only [Act.put, sA, sB, sC])
          refine hK.out _ _ (hSz) ?_
          clear hHeld hK
          intro hHeld
          (try simp only [Act.put, sA, sB, sC])
          refine wpAnyH_take (i := 14) (v := ?_) (by simp only [gA, gB, gC]; rfl) (by kernel_rfl) (by kernel_rfl) (by kernel_rfl) (by exact fun _ _ _ h => h) (Or.inl ⟨by rfl, ?_⟩) (by assumption) ?_; rotate_left; (focus (intro w hSw; (try dsimp only at hSw); go_simp; try with_reducible rfl)); (try simp only [Act.put, sA, sB, sC])
          refine wpAnyH_done (by kernel_rfl) ?_ _
          go_wp2_with fail
          go_meet
          exact ⟨_, rfl, hSz, hzz, by simpa using hoz, hB0.trans (hB.mono (Nat.le_succ _))⟩
        refine AllReadyH.cons (by simp only [gA, gB, gC]; rfl) (fun K hK => ?_) AllReadyH.nil
        go_simp
        refine hK.out _ _ (EBox.keep hS2 ((alloc_below _ _).mono hz2)) ?_
        clear hHeld hK
        intro hHeld
        have hbm := bytes_made w2 [lowB e.verb] #[.int .u8 ((lowB e.verb).toNat : Int)] rfl
        have hpn := ho2.apart
        have hpl : w2.heap.size < (w2.alloc (.cells #[.int .u8 ((lowB e.verb).toNat : Int)] 5)).heap.size := by rw [World.size_alloc]; exact Nat.lt_succ_self _
        have hb3 := (alloc_below w2 (.cells #[.int .u8 ((lowB e.verb).toNat : Int)] 5)).mono hz2
        have ho3 := ho2.below (alloc_below w2 (.cells #[.int .u8 ((lowB e.verb).toNat : Int)] 5))
        have hS3 := EBox.keep hS2 hb3
        have hz3 := Nat.le_trans hz2 hb3.size
        have hP3 := hP2.trans hb3
        generalize hw3 : w2.alloc (.cells #[.int .u8 ((lowB e.verb).toNat : Int)] 5) = w3 at *
        generalize hp : w2.heap.size = p at *
        rw [show ([lowB e.verb] : List UInt8).length = 1 from rfl] at hbm
        clear hw3 hp
        (try simp only [Act.put, sA, sB, sC])
        refine wpAnyH_ready (rs := [8]) (by kernel_rfl) (by simp) ?_
        refine AllReadyH.cons (by simp only [gA, gB, gC]; rfl) (fun K hK => ?_) AllReadyH.nil
        go_simp
        go_at_call 29
        refine (rtext_any (w.heap.size + 1) _ (([] ++ encW e.seq) ++ encL e.label) e.user (by omega) (by (try simp [encT_len, encL_len, encW_len]) <;> omega) _ ho3 hz3).mono ?_
        rintro e w4 ⟨v3, rfl, ho4, hg4⟩
        have hb4 := hg4.ownB ho3 hz3
        have hS4 := EBox.keep hS3 hb4
        have hz4 := Nat.le_trans hz3 hb4.size
        have hP4 := hP3.trans hb4
        replace hbm := hbm.grew hg4 hpl hpn
        replace hpn := hg4.apart hpl hpn
        replace hpl := Nat.lt_of_lt_of_le hpl hg4.by_.size
        refine hK.out _ _ (hS4) ?_
        clear hHeld hK
        intro hHeld
        obtain ⟨vz, wz, hap, hoz, hgz⟩ := append_at w4 (w.heap.size + 1) _ ((([] ++ encW e.seq) ++ encL e.label) ++ encT e.user) ⟨p, 0, none⟩ 1 1 [lowB e.verb] hbm ho4 hz4 (by (try simp [encT_len, encL_len, encW_len]) <;> omega) (by omega)
        have hbz := hgz.ownB ho4 hz4
        have hSz := EBox.keep hS4 hbz
        have hzz := Nat.le_trans hz4 hbz.size
        have hB := hP4.trans hbz
        (try simp only [Act.put, sA, sB, sC])
        refine wpAnyH_ready (rs := [13]) (by kernel_rfl) (by simp) ?_
        refine AllReadyH.cons (by simp only [gA, gB, gC]; rfl) (fun K hK => ?_) AllReadyH.nil
        refine step_append_u8 rfl _ _ rfl rfl rfl rfl hap ?_
        (try simp only [Act.put, sA, sB, sC])
        refine hK.out _ _ (hSz) ?_
        clear hHeld hK
        intro hHeld
        (try simp only [Act.put, sA, sB, sC])
        refine wpAnyH_take (i := 14) (v := ?_) (by simp only [gA, gB, gC]; rfl) (by kernel_rfl) (by kernel_rfl) (by kernel_rfl) (by exact fun _ _ _ h => h) (Or.inl ⟨by rfl, ?_⟩) (by assumption) ?_; rotate_left; (focus (intro w hSw; (try dsimp only at hSw); go_simp; try with_reducible rfl)); (try simp only [Act.put, sA, sB, sC])
        refine wpAnyH_done (by kernel_rfl) ?_ _
        go_wp2_with fail
        go_meet
        exact ⟨_, rfl, hSz, hzz, by simpa using hoz, hB0.trans (hB.mono (Nat.le_succ _))⟩
      refine AllReadyH.cons (by simp only [gA, gB, gC]; rfl) (fun K hK => ?_) AllReadyH.nil
      go_simp
      refine hK.out _ _ (EBox.keep hS1 ((alloc_below _ _).mono hz1)) ?_
      clear hHeld hK
      intro hHeld
      have hbm := bytes_made w1 [lowB e.verb] #[.int .u8 ((lowB e.verb).toNat : Int)] rfl
      have hpn := ho1.apart
      have hpl : w1.heap.size < (w1.alloc (.cells #[.int .u8 ((lowB e.verb).toNat : Int)] 5)).heap.size := by rw [World.size_alloc]; exact Nat.lt_succ_self _
      have hb2 := (alloc_below w1 (.cells #[.int .u8 ((lowB e.verb).toNat : Int)] 5)).mono hz1
      have ho2 := ho1.below (alloc_below w1 (.cells #[.int .u8 ((lowB e.verb).toNat : Int)] 5))
      have hS2 := EBox.keep hS1 hb2
      have hz2 := Nat.le_trans hz1 hb2.size
      have hP2 := hP1.trans hb2
      generalize hw2 : w1.alloc (.cells #[.int .u8 ((lowB e.verb).toNat : Int)] 5) = w2 at *
      generalize hp : w1.heap.size = p at *
      rw [show ([lowB e.verb] : List UInt8).length = 1 from rfl] at hbm
      clear hw2 hp
      (try simp only [Act.put, sA, sB, sC])
      refine wpAnyH_ready (rs := [5]) (by kernel_rfl) (by simp) ?_
      refine AllReadyH.cons (by simp only [gA, gB, gC]; rfl) (fun K hK => ?_) AllReadyH.nil
      go_simp
      go_at_call 30
      refine (rlab_any (w.heap.size + 1) _ ([] ++ encW e.seq) e.label (by (try simp [encT_len, encL_len, encW_len]) <;> omega) _ ho2 hz2).mono ?_
      rintro e w3 ⟨v2, rfl, ho3, hg3⟩
      have hb3 := hg3.ownB ho2 hz2
      have hS3 := EBox.keep hS2 hb3
      have hz3 := Nat.le_trans hz2 hb3.size
      have hP3 := hP2.trans hb3
      replace hbm := hbm.grew hg3 hpl hpn
      replace hpn := hg3.apart hpl hpn
      replace hpl := Nat.lt_of_lt_of_le hpl hg3.by_.size
      refine hK.out _ _ (hS3) ?_
      clear hHeld hK
      intro hHeld
      (try simp only [Act.put, sA, sB, sC])
      refine wpAnyH_ready (rs := [8]) (by kernel_rfl) (by simp) ?_
      refine AllReadyH.cons (by simp only [gA, gB, gC]; rfl) (fun K hK => ?_) AllReadyH.nil
      go_simp
      go_at_call 29
      refine (rtext_any (w.heap.size + 1) _ (([] ++ encW e.seq) ++ encL e.label) e.user (by omega) (by (try simp [encT_len, encL_len, encW_len]) <;> omega) _ ho3 hz3).mono ?_
      rintro e w4 ⟨v3, rfl, ho4, hg4⟩
      have hb4 := hg4.ownB ho3 hz3
      have hS4 := EBox.keep hS3 hb4
      have hz4 := Nat.le_trans hz3 hb4.size
      have hP4 := hP3.trans hb4
      replace hbm := hbm.grew hg4 hpl hpn
      replace hpn := hg4.apart hpl hpn
      replace hpl := Nat.lt_of_lt_of_le hpl hg4.by_.size
      refine hK.out _ _ (hS4) ?_
      clear hHeld hK
      intro hHeld
      obtain ⟨vz, wz, hap, hoz, hgz⟩ := append_at w4 (w.heap.size + 1) _ ((([] ++ encW e.seq) ++ encL e.label) ++ encT e.user) ⟨p, 0, none⟩ 1 1 [lowB e.verb] hbm ho4 hz4 (by (try simp [encT_len, encL_len, encW_len]) <;> omega) (by omega)
      have hbz := hgz.ownB ho4 hz4
      have hSz := EBox.keep hS4 hbz
      have hzz := Nat.le_trans hz4 hbz.size
      have hB := hP4.trans hbz
      (try simp only [Act.put, sA, sB, sC])
      refine wpAnyH_ready (rs := [13]) (by kernel_rfl) (by simp) ?_
      refine AllReadyH.cons (by simp only [gA, gB, gC]; rfl) (fun K hK => ?_) AllReadyH.nil
      refine step_append_u8 rfl _ _ rfl rfl rfl rfl hap ?_
      (try simp only [Act.put, sA, sB, sC])
      refine hK.out _ _ (hSz) ?_
      clear hHeld hK
      intro hHeld
      (try simp only [Act.put, sA, sB, sC])
      refine wpAnyH_take (i := 14) (v := ?_) (by simp only [gA, gB, gC]; rfl) (by kernel_rfl) (by kernel_rfl) (by kernel_rfl) (by exact fun _ _ _ h => h) (Or.inl ⟨by rfl, ?_⟩) (by assumption) ?_; rotate_left; (focus (intro w hSw; (try dsimp only at hSw); go_simp; try with_reducible rfl)); (try simp only [Act.put, sA, sB, sC])
      refine wpAnyH_done (by kernel_rfl) ?_ _
      go_wp2_with fail
      go_meet
      exact ⟨_, rfl, hSz, hzz, by simpa using hoz, hB0.trans (hB.mono (Nat.le_succ _))⟩
    refine AllReadyH.cons (by simp only [gA, gB, gC]; rfl) (fun K hK => ?_) AllReadyH.nil
    go_simp
    refine hK.out _ _ (EBox.keep hS0 ((alloc_below _ _).mono hz0)) ?_
    clear hHeld hK
    intro hHeld
    have hbm := bytes_made w0 [lowB e.verb] #[.int .u8 ((lowB e.verb).toNat : Int)] rfl
    have hpn := ho0.apart
    have hpl : w0.heap.size < (w0.alloc (.cells #[.int .u8 ((lowB e.verb).toNat : Int)] 5)).heap.size := by rw [World.size_alloc]; exact Nat.lt_succ_self _
    have hb1 := (alloc_below w0 (.cells #[.int .u8 ((lowB e.verb).toNat : Int)] 5)).mono hz0
    have ho1 := ho0.below (alloc_below w0 (.cells #[.int .u8 ((lowB e.verb).toNat : Int)] 5))
    have hS1 := EBox.keep hS0 hb1
    have hz1 := Nat.le_trans hz0 hb1.size
    have hP1 := hb1
    generalize hw1 : w0.alloc (.cells #[.int .u8 ((lowB e.verb).toNat : Int)] 5) = w1 at *
    generalize hp : w0.heap.size = p at *
    rw [show ([lowB e.verb] : List UInt8).length = 1 from rfl] at hbm
    clear hw1 hp
    (try simp only [Act.put, sA, sB, sC])
    refine wpAnyH_ready (rs := [2]) (by kernel_rfl) (by simp) ?_
    refine AllReadyH.cons (by simp only [gA, gB, gC]; rfl) (fun K hK => ?_) AllReadyH.nil
    go_simp
    go_at_call 31
    refine (rnum_any (w.heap.size + 1) _ [] e.seq (by (try simp [encT_len, encL_len, encW_len]) <;> omega) _ ho1 hz1).mono ?_
    rintro e w2 ⟨v1, rfl, ho2, hg2⟩
    have hb2 := hg2.ownB ho1 hz1
    have hS2 := EBox.keep hS1 hb2
    have hz2 := Nat.le_trans hz1 hb2.size
    have hP2 := hP1.trans hb2
    replace hbm := hbm.grew hg2 hpl hpn
    replace hpn := hg2.apart hpl hpn
    replace hpl := Nat.lt_of_lt_of_le hpl hg2.by_.size
    refine hK.out _ _ (hS2) ?_
    clear hHeld hK
    intro hHeld
    (try simp only [Act.put, sA, sB, sC])
    refine wpAnyH_ready (rs := [5]) (by kernel_rfl) (by simp) ?_
    refine AllReadyH.cons (by simp only [gA, gB, gC]; rfl) (fun K hK => ?_) AllReadyH.nil
    go_simp
    go_at_call 30
    refine (rlab_any (w.heap.size + 1) _ ([] ++ encW e.seq) e.label (by (try simp [encT_len, encL_len, encW_len]) <;> omega) _ ho2 hz2).mono ?_
    rintro e w3 ⟨v2, rfl, ho3, hg3⟩
    have hb3 := hg3.ownB ho2 hz2
    have hS3 := EBox.keep hS2 hb3
    have hz3 := Nat.le_trans hz2 hb3.size
    have hP3 := hP2.trans hb3
    replace hbm := hbm.grew hg3 hpl hpn
    replace hpn := hg3.apart hpl hpn
    replace hpl := Nat.lt_of_lt_of_le hpl hg3.by_.size
    refine hK.out _ _ (hS3) ?_
    clear hHeld hK
    intro hHeld
    (try simp only [Act.put, sA, sB, sC])
    refine wpAnyH_ready (rs := [8]) (by kernel_rfl) (by simp) ?_
    refine AllReadyH.cons (by simp only [gA, gB, gC]; rfl) (fun K hK => ?_) AllReadyH.nil
    go_simp
    go_at_call 29
    refine (rtext_any (w.heap.size + 1) _ (([] ++ encW e.seq) ++ encL e.label) e.user (by omega) (by (try simp [encT_len, encL_len, encW_len]) <;> omega) _ ho3 hz3).mono ?_
    rintro e w4 ⟨v3, rfl, ho4, hg4⟩
    have hb4 := hg4.ownB ho3 hz3
    have hS4 := EBox.keep hS3 hb4
    have hz4 := Nat.le_trans hz3 hb4.size
    have hP4 := hP3.trans hb4
    replace hbm := hbm.grew hg4 hpl hpn
    replace hpn := hg4.apart hpl hpn
    replace hpl := Nat.lt_of_lt_of_le hpl hg4.by_.size
    refine hK.out _ _ (hS4) ?_
    clear hHeld hK
    intro hHeld
    obtain ⟨vz, wz, hap, hoz, hgz⟩ := append_at w4 (w.heap.size + 1) _ ((([] ++ encW e.seq) ++ encL e.label) ++ encT e.user) ⟨p, 0, none⟩ 1 1 [lowB e.verb] hbm ho4 hz4 (by (try simp [encT_len, encL_len, encW_len]) <;> omega) (by omega)
    have hbz := hgz.ownB ho4 hz4
    have hSz := EBox.keep hS4 hbz
    have hzz := Nat.le_trans hz4 hbz.size
    have hB := hP4.trans hbz
    (try simp only [Act.put, sA, sB, sC])
    refine wpAnyH_ready (rs := [13]) (by kernel_rfl) (by simp) ?_
    refine AllReadyH.cons (by simp only [gA, gB, gC]; rfl) (fun K hK => ?_) AllReadyH.nil
    refine step_append_u8 rfl _ _ rfl rfl rfl rfl hap ?_
    (try simp only [Act.put, sA, sB, sC])
    refine hK.out _ _ (hSz) ?_
    clear hHeld hK
    intro hHeld
    (try simp only [Act.put, sA, sB, sC])
    refine wpAnyH_take (i := 14) (v := ?_) (by simp only [gA, gB, gC]; rfl) (by kernel_rfl) (by kernel_rfl) (by kernel_rfl) (by exact fun _ _ _ h => h) (Or.inl ⟨by rfl, ?_⟩) (by assumption) ?_; rotate_left; (focus (intro w hSw; (try dsimp only at hSw); go_simp; try with_reducible rfl)); (try simp only [Act.put, sA, sB, sC])
    refine wpAnyH_done (by kernel_rfl) ?_ _
    go_wp2_with fail
    go_meet
    exact ⟨_, rfl, hSz, hzz, by simpa using hoz, hB0.trans (hB.mono (Nat.le_succ _))⟩
  case rest =>
    clear hS hB0 hz
    obtain ⟨v, rfl, hS, hz, ho, hB0⟩ := hcut
    go_wp2_with fail
    have hS0 : EBox wc.drew w.heap.size e := hS
    replace hB0 : Below w.heap.size w wc.drew := hB0.drew
    have hz0 : w.heap.size + 1 ≤ wc.drew.heap.size := hz
    have ho0 := ho.below (Below.refl _ wc).drew
    clear hS hz ho
    refine wp_region_held_drew (S := (fun W => EBox W w.heap.size e)) (by kernel_rfl) (by exact hS0) ?_
    intro hHeld
    generalize wc.drew = w0 at *
    refine wpAnyH_take (i := 0) (v := ?_) (by simp only [gA, gB, gC]; rfl) (by kernel_rfl) (by kernel_rfl) (by kernel_rfl) (by exact fun _ _ _ h => h) (Or.inl ⟨by rfl, ?_⟩) (by assumption) ?_; rotate_left; (focus (intro w hSw; (try dsimp only at hSw); go_simp; try with_reducible rfl)); (try simp only [Act.put, sA, sB, sC])
    refine wpAnyH_take (i := 1) (v := ?_) (by simp only [gA, gB, gC]; rfl) (by kernel_rfl) (by kernel_rfl) (by kernel_rfl) (by exact fun _ _ _ h => h) (Or.inl ⟨by rfl, ?_⟩) (by assumption) ?_; rotate_left; (focus (intro w hSw; (try dsimp only at hSw); go_simp; try with_reducible rfl)); (try simp only [Act.put, sA, sB, sC])
    refine wpAnyH_take (i := 2) (v := ?_) (by simp only [gA, gB, gC]; rfl) (by kernel_rfl) (by kernel_rfl) (by kernel_rfl) (by exact fun _ _ _ h => h) (Or.inl ⟨by rfl, ?_⟩) (by assumption) ?_; rotate_left; (focus (intro w hSw; (try dsimp only at hSw); go_simp; try with_reducible rfl)); (try simp only [Act.put, sA, sB, sC])
    refine wpAnyH_take (i := 4) (v := ?_) (by simp only [gA, gB, gC]; rfl) (by kernel_rfl) (by kernel_rfl) (by kernel_rfl) (by exact fun _ _ _ h => h) (Or.inl ⟨by rfl, ?_⟩) (by assumption) ?_; rotate_left; (focus (intro w hSw; (try dsimp only at hSw); go_simp; try with_reducible rfl)); (try simp only [Act.put, sA, sB, sC])
    refine wpAnyH_take (i := 5) (v := ?_) (by simp only [gA, gB, gC]; rfl) (by kernel_rfl) (by kernel_rfl) (by kernel_rfl) (by exact fun _ _ _ h => h) (Or.inl ⟨by rfl, ?_⟩) (by assumption) ?_; rotate_left; (focus (intro w hSw; (try dsimp only at hSw); go_simp; try with_reducible rfl)); (try simp only [Act.put, sA, sB, sC])
    refine wpAnyH_take (i := 6) (v := ?_) (by simp only [gA, gB, gC]; rfl) (by kernel_rfl) (by kernel_rfl) (by kernel_rfl) (by exact fun _ _ _ h => h) (Or.inl ⟨by rfl, ?_⟩) (by assumption) ?_; rotate_left; (focus (intro w hSw; (try dsimp only at hSw); go_simp; try with_reducible rfl)); (try simp only [Act.put, sA, sB, sC])
    refine wpAnyH_ready (rs := [3, 7]) (by kernel_rfl) (by simp) ?_
    refine AllReadyH.cons (by simp only [gA, gB, gC]; rfl) (fun K hK => ?_) ?_
    · go_simp
      go_at_call 29
      refine (rtext_any (w.heap.size + 1) _ (encW e.seq ++ encL e.label ++ encT e.user ++ [lowB e.verb]) e.object (by omega) (by (try simp [encT_len, encL_len, encW_len]) <;> omega) _ ho0 hz0).mono ?_
      rintro e w1 ⟨v1, rfl, ho1, hg1⟩
      have hb1 := hg1.ownB ho0 hz0
      have hS1 := EBox.keep hS0 hb1
      have hz1 := Nat.le_trans hz0 hb1.size
      have hP1 := hb1
      refine hK.out _ _ (hS1) ?_
      clear hHeld hK
      intro hHeld
      (try simp only [Act.put, sA, sB, sC])
      refine wpAnyH_ready (rs := [7]) (by kernel_rfl) (by simp) ?_
      refine AllReadyH.cons (by simp only [gA, gB, gC]; rfl) (fun K hK => ?_) AllReadyH.nil
      go_simp
      refine hK.out _ _ (EBox.keep hS1 ((alloc_below _ _).mono hz1)) ?_
      clear hHeld hK
      intro hHeld
      have hbm := bytes_made w1 [lowB e.verdict] #[.int .u8 ((lowB e.verdict).toNat : Int)] rfl
      have hpn := ho1.apart
      have hpl : w1.heap.size < (w1.alloc (.cells #[.int .u8 ((lowB e.verdict).toNat : Int)] 5)).heap.size := by rw [World.size_alloc]; exact Nat.lt_succ_self _
      have hb2 := (alloc_below w1 (.cells #[.int .u8 ((lowB e.verdict).toNat : Int)] 5)).mono hz1
      have ho2 := ho1.below (alloc_below w1 (.cells #[.int .u8 ((lowB e.verdict).toNat : Int)] 5))
      have hS2 := EBox.keep hS1 hb2
      have hz2 := Nat.le_trans hz1 hb2.size
      have hP2 := hP1.trans hb2
      generalize hw2 : w1.alloc (.cells #[.int .u8 ((lowB e.verdict).toNat : Int)] 5) = w2 at *
      generalize hp : w1.heap.size = p at *
      rw [show ([lowB e.verdict] : List UInt8).length = 1 from rfl] at hbm
      clear hw2 hp
      obtain ⟨vz, wz, hap, hoz, hgz⟩ := append_at w2 (w.heap.size + 1) _ ((encW e.seq ++ encL e.label ++ encT e.user ++ [lowB e.verb]) ++ encT e.object) ⟨p, 0, none⟩ 1 1 [lowB e.verdict] hbm ho2 hz2 (by (try simp [encT_len, encL_len, encW_len]) <;> omega) (by omega)
      have hbz := hgz.ownB ho2 hz2
      have hSz := EBox.keep hS2 hbz
      have hzz := Nat.le_trans hz2 hbz.size
      have hB := hP2.trans hbz
      (try simp only [Act.put, sA, sB, sC])
      refine wpAnyH_ready (rs := [8]) (by kernel_rfl) (by simp) ?_
      refine AllReadyH.cons (by simp only [gA, gB, gC]; rfl) (fun K hK => ?_) AllReadyH.nil
      refine step_append_u8 rfl _ _ rfl rfl rfl rfl hap ?_
      (try simp only [Act.put, sA, sB, sC])
      refine hK.out _ _ (hSz) ?_
      clear hHeld hK
      intro hHeld
      (try simp only [Act.put, sA, sB, sC])
      refine wpAnyH_take (i := 9) (v := ?_) (by simp only [gA, gB, gC]; rfl) (by kernel_rfl) (by kernel_rfl) (by kernel_rfl) (by exact fun _ _ _ h => h) (Or.inl ⟨by rfl, ?_⟩) (by assumption) ?_; rotate_left; (focus (intro w hSw; (try dsimp only at hSw); go_simp; try with_reducible rfl)); (try simp only [Act.put, sA, sB, sC])
      refine wpAnyH_done (by kernel_rfl) ?_ _
      go_wp2_with fail
      go_ret
      refine ⟨_, rfl, ?_, hB0.trans (hB.mono (Nat.le_succ _))⟩
      have := hoz.lower (Nat.le_succ w.heap.size)
      simpa [encE] using this
    refine AllReadyH.cons (by simp only [gA, gB, gC]; rfl) (fun K hK => ?_) AllReadyH.nil
    go_simp
    refine hK.out _ _ (EBox.keep hS0 ((alloc_below _ _).mono hz0)) ?_
    clear hHeld hK
    intro hHeld
    have hbm := bytes_made w0 [lowB e.verdict] #[.int .u8 ((lowB e.verdict).toNat : Int)] rfl
    have hpn := ho0.apart
    have hpl : w0.heap.size < (w0.alloc (.cells #[.int .u8 ((lowB e.verdict).toNat : Int)] 5)).heap.size := by rw [World.size_alloc]; exact Nat.lt_succ_self _
    have hb1 := (alloc_below w0 (.cells #[.int .u8 ((lowB e.verdict).toNat : Int)] 5)).mono hz0
    have ho1 := ho0.below (alloc_below w0 (.cells #[.int .u8 ((lowB e.verdict).toNat : Int)] 5))
    have hS1 := EBox.keep hS0 hb1
    have hz1 := Nat.le_trans hz0 hb1.size
    have hP1 := hb1
    generalize hw1 : w0.alloc (.cells #[.int .u8 ((lowB e.verdict).toNat : Int)] 5) = w1 at *
    generalize hp : w0.heap.size = p at *
    rw [show ([lowB e.verdict] : List UInt8).length = 1 from rfl] at hbm
    clear hw1 hp
    (try simp only [Act.put, sA, sB, sC])
    refine wpAnyH_ready (rs := [3]) (by kernel_rfl) (by simp) ?_
    refine AllReadyH.cons (by simp only [gA, gB, gC]; rfl) (fun K hK => ?_) AllReadyH.nil
    go_simp
    go_at_call 29
    refine (rtext_any (w.heap.size + 1) _ (encW e.seq ++ encL e.label ++ encT e.user ++ [lowB e.verb]) e.object (by omega) (by (try simp [encT_len, encL_len, encW_len]) <;> omega) _ ho1 hz1).mono ?_
    rintro e w2 ⟨v1, rfl, ho2, hg2⟩
    have hb2 := hg2.ownB ho1 hz1
    have hS2 := EBox.keep hS1 hb2
    have hz2 := Nat.le_trans hz1 hb2.size
    have hP2 := hP1.trans hb2
    replace hbm := hbm.grew hg2 hpl hpn
    replace hpn := hg2.apart hpl hpn
    replace hpl := Nat.lt_of_lt_of_le hpl hg2.by_.size
    refine hK.out _ _ (hS2) ?_
    clear hHeld hK
    intro hHeld
    obtain ⟨vz, wz, hap, hoz, hgz⟩ := append_at w2 (w.heap.size + 1) _ ((encW e.seq ++ encL e.label ++ encT e.user ++ [lowB e.verb]) ++ encT e.object) ⟨p, 0, none⟩ 1 1 [lowB e.verdict] hbm ho2 hz2 (by (try simp [encT_len, encL_len, encW_len]) <;> omega) (by omega)
    have hbz := hgz.ownB ho2 hz2
    have hSz := EBox.keep hS2 hbz
    have hzz := Nat.le_trans hz2 hbz.size
    have hB := hP2.trans hbz
    (try simp only [Act.put, sA, sB, sC])
    refine wpAnyH_ready (rs := [8]) (by kernel_rfl) (by simp) ?_
    refine AllReadyH.cons (by simp only [gA, gB, gC]; rfl) (fun K hK => ?_) AllReadyH.nil
    refine step_append_u8 rfl _ _ rfl rfl rfl rfl hap ?_
    (try simp only [Act.put, sA, sB, sC])
    refine hK.out _ _ (hSz) ?_
    clear hHeld hK
    intro hHeld
    (try simp only [Act.put, sA, sB, sC])
    refine wpAnyH_take (i := 9) (v := ?_) (by simp only [gA, gB, gC]; rfl) (by kernel_rfl) (by kernel_rfl) (by kernel_rfl) (by exact fun _ _ _ h => h) (Or.inl ⟨by rfl, ?_⟩) (by assumption) ?_; rotate_left; (focus (intro w hSw; (try dsimp only at hSw); go_simp; try with_reducible rfl)); (try simp only [Act.put, sA, sB, sC])
    refine wpAnyH_done (by kernel_rfl) ?_ _
    go_wp2_with fail
    go_ret
    refine ⟨_, rfl, ?_, hB0.trans (hB.mono (Nat.le_succ _))⟩
    have := hoz.lower (Nat.le_succ w.heap.size)
    simpa [encE] using this
end Go.Proofs.YtohocomemkckeaaDoor

/-! GRANTS, AND WHERE THEIR ROWS LIE. For every stage behind the fifth. -/
namespace Go.Proofs.YtohocomemkckeaaDoor
open Go.RowKit
set_option maxRecDepth 8000
set_option linter.unusedSimpArgs false
set_option linter.unusedVariables false

structure Gr where
  u : ByteArray
  m : Int
abbrev Gr.v (g : Gr) : Value := .agg #[.string g.u, .int .i64 g.m]
abbrev zGr : Gr := ⟨⟨#[]⟩, 0⟩
def GrsAt (W : World) (a : Option Addr) (l : List Gr) : Prop := ∀ j q, l[j]? = some q → ∃ y, a = some y ∧ W.cell? (y.add (j * 2)) = some (.string q.u) ∧ W.cell? ⟨(y.add (j * 2)).block, (y.add (j * 2)).off + 1, none⟩ = some (.int .i64 q.m)
theorem GrsAt.below {W W' : World} {a : Option Addr} {l : List Gr} (h : GrsAt W a l) (b : Below W.heap.size W W') : GrsAt W' a l := fun j q hq => by
  obtain ⟨y, hy, h1, h2⟩ := h j q hq
  exact ⟨y, hy, (b.cell (World.block_lt_of_cell? _ _ h1)).trans h1, (b.cell (p := ⟨(y.add (j * 2)).block, _, none⟩) (World.block_lt_of_cell? _ _ h2)).trans h2⟩
end Go.Proofs.YtohocomemkckeaaDoor

/-! NODES, WRITTEN: the document's own Encode (donjonref10). Written by mk_nenc.py. -/
namespace Go.Proofs.YtohocomemkckeaaDoor
open Go.RowKit
set_option maxRecDepth 8000
set_option linter.unusedSimpArgs false
set_option linter.unusedVariables false

/-- A node. -/
structure Nod where
  path : ByteArray
  dir : Bool
  label : Lab
  acl : List Gr
  r1 : Int
  r2 : Int
  r3 : Int
  gates : Int
  words : List Int
  by_ : Lab
abbrev Nod.v (n : Nod) (aa : Option Addr) (ca : Nat) (wa : Option Addr) (cw : Nat) : Value := .agg #[.string n.path, .bool n.dir, .int .i64 n.label.s, .int .i64 n.label.c, .int .i64 n.label.i, .int .i64 n.label.k, .slice aa n.acl.length ca, .int .i64 n.r1, .int .i64 n.r2, .int .i64 n.r3, .int .i64 n.gates, .slice wa n.words.length cw, .int .i64 n.by_.s, .int .i64 n.by_.c, .int .i64 n.by_.i, .int .i64 n.by_.k]
def encG (q : Gr) : List UInt8 := encT q.u ++ [lowB q.m]
def dirB (d : Bool) : UInt8 := if d then 1 else 0
def encN (n : Nod) : List UInt8 := encT n.path ++ [dirB n.dir] ++ encL n.label ++ encL n.by_ ++ [lowB (n.acl.length : Int)] ++ n.acl.flatMap encG ++ [lowB n.r1, lowB n.r2, lowB n.r3, lowB n.gates, lowB (n.words.length : Int)] ++ n.words.flatMap encW
/-- Where a node's rows lie. -/
def WrdsAt (W : World) (a : Option Addr) (l : List Int) : Prop := ∀ j x, l[j]? = some x → ∃ y, a = some y ∧ W.cell? (y.add j) = some (.int .i64 x)
theorem WrdsAt.below {W W' : World} {a : Option Addr} {l : List Int} (h : WrdsAt W a l) (b : Below W.heap.size W W') : WrdsAt W' a l := fun j q hq => by
  obtain ⟨y, hy, h1⟩ := h j q hq
  exact ⟨y, hy, (b.cell (World.block_lt_of_cell? _ _ h1)).trans h1⟩
structure Nod.Small (n : Nod) : Prop where
  p : n.path.size < 100000
  a : n.acl.length < 300
  u : ∀ q ∈ n.acl, q.u.size < 1000
  w : n.words.length < 1000
abbrev NBox (W : World) (g : Nat) (n : Nod) (aa : Option Addr) (ca : Nat) (wa : Option Addr) (cw : Nat) : Prop := W.cell? ⟨g, 0, none⟩ = some (.string n.path) ∧ W.cell? ⟨g, 1, none⟩ = some (.bool n.dir) ∧ W.cell? ⟨g, 2, none⟩ = some (.int .i64 n.label.s) ∧ W.cell? ⟨g, 3, none⟩ = some (.int .i64 n.label.c) ∧ W.cell? ⟨g, 4, none⟩ = some (.int .i64 n.label.i) ∧ W.cell? ⟨g, 5, none⟩ = some (.int .i64 n.label.k) ∧ W.cell? ⟨g, 6, none⟩ = some (.slice aa n.acl.length ca) ∧ W.cell? ⟨g, 7, none⟩ = some (.int .i64 n.r1) ∧ W.cell? ⟨g, 8, none⟩ = some (.int .i64 n.r2) ∧ W.cell? ⟨g, 9, none⟩ = some (.int .i64 n.r3) ∧ W.cell? ⟨g, 10, none⟩ = some (.int .i64 n.gates) ∧ W.cell? ⟨g, 11, none⟩ = some (.slice wa n.words.length cw) ∧ W.cell? ⟨g, 12, none⟩ = some (.int .i64 n.by_.s) ∧ W.cell? ⟨g, 13, none⟩ = some (.int .i64 n.by_.c) ∧ W.cell? ⟨g, 14, none⟩ = some (.int .i64 n.by_.i) ∧ W.cell? ⟨g, 15, none⟩ = some (.int .i64 n.by_.k)
theorem NBox.keep {W W' : World} {g : Nat} {n : Nod} {aa : Option Addr} {ca : Nat} {wa : Option Addr} {cw : Nat} (h : NBox W g n aa ca wa cw) (b : Below (g + 1) W W') : NBox W' g n aa ca wa cw := by
  obtain ⟨h0, h1, h2, h3, h4, h5, h6, h7, h8, h9, h10, h11, h12, h13, h14, h15⟩ := h
  have c : ∀ k, W'.cell? ⟨g, k, none⟩ = W.cell? ⟨g, k, none⟩ := fun k => b.cell (p := ⟨g, k, none⟩) (Nat.lt_succ_self g)
  exact ⟨(c _).trans h0, (c _).trans h1, (c _).trans h2, (c _).trans h3, (c _).trans h4, (c _).trans h5, (c _).trans h6, (c _).trans h7, (c _).trans h8, (c _).trans h9, (c _).trans h10, (c _).trans h11, (c _).trans h12, (c _).trans h13, (c _).trans h14, (c _).trans h15⟩
theorem keepG {W W' : World} {g : Nat} {n : Nod} {aa : Option Addr} {ca : Nat} {wa : Option Addr} {cw : Nat} {y : Addr} {q : Gr} (hy : y.block < g + 1) (h : NBox W g n aa ca wa cw ∧ W.cell? y = some (.string q.u) ∧ W.cell? ⟨y.block, y.off + 1, none⟩ = some (.int .i64 q.m)) (b : Below (g + 1) W W') : NBox W' g n aa ca wa cw ∧ W'.cell? y = some (.string q.u) ∧ W'.cell? ⟨y.block, y.off + 1, none⟩ = some (.int .i64 q.m) :=
  ⟨h.1.keep b, (b.cell hy).trans h.2.1, (b.cell (p := ⟨y.block, _, none⟩) hy).trans h.2.2⟩
def ncells (n : Nod) (aa : Option Addr) (ca : Nat) (wa : Option Addr) (cw : Nat) : Array Value := #[.string n.path, .bool n.dir, .int .i64 n.label.s, .int .i64 n.label.c, .int .i64 n.label.i, .int .i64 n.label.k, .slice aa n.acl.length ca, .int .i64 n.r1, .int .i64 n.r2, .int .i64 n.r3, .int .i64 n.gates, .slice wa n.words.length cw, .int .i64 n.by_.s, .int .i64 n.by_.c, .int .i64 n.by_.i, .int .i64 n.by_.k]
theorem nbox_alloc (w : World) (n : Nod) (aa : Option Addr) (ca : Nat) (wa : Option Addr) (cw : Nat) (T : TypeId) : NBox (w.alloc (.cells (ncells n aa ca wa cw) T)) w.heap.size n aa ca wa cw := by
  refine ⟨?_, ?_, ?_, ?_, ?_, ?_, ?_, ?_, ?_, ?_, ?_, ?_, ?_, ?_, ?_, ?_⟩ <;> (rw [World.cell?_alloc_at _ _ _ _ rfl]; rfl)
theorem flat_take {α β : Type} (f : α → List β) (l : List α) {i : Nat} {q : α} (h : l[i]? = some q) : (l.take (i + 1)).flatMap f = (l.take i).flatMap f ++ f q := by
  rw [List.take_add_one, h]
  simp
theorem flat_len {α β : Type} (f : α → List β) (m : Nat) (l : List α) (h : ∀ q ∈ l, (f q).length ≤ m) : (l.flatMap f).length ≤ l.length * m := by
  induction l with
  | nil => simp
  | cons q r ih =>
    rw [List.flatMap_cons, List.length_append, List.length_cons, Nat.add_mul, Nat.one_mul]
    have h1 := h q List.mem_cons_self
    have h2 := ih fun z hz => h z (List.mem_cons_of_mem _ hz)
    omega

end Go.Proofs.YtohocomemkckeaaDoor

/-! NAMES, FOR THE STAGES BEHIND THE SEVENTH: package path's Name and the document's own (donjonref7). -/
namespace Go.Proofs.YtohocomemkckeaaDoor
open Go.RowKit
set_option maxRecDepth 8000
set_option linter.unusedSimpArgs false
set_option linter.unusedVariables false

def eqs (a b : ByteArray) : Bool := a.toList == b.toList
theorem toL (a : ByteArray) : a.toList = a.data.toList := Lib.toList_data a
theorem eqs_iff {a b : ByteArray} : eqs a b = true ↔ a = b := by
  unfold eqs
  rw [toL, toL]
  simp only [beq_iff_eq]
  exact ⟨fun h => by cases a; cases b; simpa using h, fun h => by rw [h]⟩
theorem eqs_self (a : ByteArray) : eqs a a = true := eqs_iff.2 rfl
theorem eqs_ne {a b : ByteArray} (h : a ≠ b) : eqs a b = false := by
  cases he : eqs a b
  · rfl
  · exact absurd (eqs_iff.1 he) h
def okB (c : UInt8) : Bool := (decide (97 ≤ c.toNat) && decide (c.toNat ≤ 122)) || (decide (48 ≤ c.toNat) && decide (c.toNat ≤ 57))
def name (u : ByteArray) : Bool := decide (1 ≤ u.size) && (decide (u.size ≤ 12) && u.data.toList.all okB)
theorem all_drop {u : ByteArray} {i : Nat} (h : i < u.size) : (u.data.toList.drop i).all okB = (okB (u[i]'h) && (u.data.toList.drop (i + 1)).all okB) := by
  have hi : i < u.data.toList.length := by rw [Array.length_toList]; exact h
  rw [List.drop_eq_getElem_cons hi, List.all_cons]
  rfl
theorem below_iter (w : World) (s : ByteArray) (pos : Nat) : Below w.heap.size w (w.iter s pos) := (Below.refl _ _).alloc (Nat.le_refl _) _
end Go.Proofs.YtohocomemkckeaaDoor

/-! NAMES AND PATHS AS BYTES, AND THE DOCUMENT'S OWN SMALL FUNCTIONS (donjonref7). -/
namespace Go.Proofs.YtohocomemkckeaaDoor
open Go.RowKit
set_option maxRecDepth 8000
set_option linter.unusedSimpArgs false
/-- Where the last slash among the first i bytes stands; nought, if none does. -/
def slashTo (u : ByteArray) : Nat → Nat
  | 0 => 0
  | i + 1 => if u.data.toList.getD i 0 = 47 then i else slashTo u i
theorem slashTo_le (u : ByteArray) : ∀ i, slashTo u i ≤ i
  | 0 => Nat.le_refl _
  | i + 1 => by
    unfold slashTo
    split
    · omega
    · have := slashTo_le u i; omega
theorem byte_at {u : ByteArray} {i : Nat} (h : i < u.size) : u.data.toList.getD i 0 = u[i]'h := by
  have hi : i < u.data.toList.length := by rw [Array.length_toList]; exact h
  rw [List.getD_eq_getElem?_getD, List.getElem?_eq_getElem hi]
  rfl
def parentOf (u : ByteArray) : ByteArray := if u.size < 2 then ⟨#[]⟩ else if slashTo u u.size = 0 then ⟨#[47]⟩ else u.extract 0 (slashTo u u.size)
def lastOf (u : ByteArray) : ByteArray := if u.size < 2 then ⟨#[]⟩ else u.extract (slashTo u u.size + 1) u.size
def slashS : ByteArray := ⟨#[47]⟩
def joinOf (p n : ByteArray) : ByteArray := if eqs p slashS = true then p ++ n else p ++ slashS ++ n
theorem eqs_lit {u : ByteArray} (b : Bool) (h : eqs u slashS = b) : (u.toList == [47]) = b := by
  have : slashS.toList = [47] := by rw [toL]; rfl
  unfold eqs at h
  rw [this] at h
  exact h
def inOf (u v : ByteArray) : Bool := if eqs v slashS = true then decide (1 < u.size) else decide (v.size < u.size) && (eqs (u.extract 0 v.size) v && decide (u.data.toList.getD v.size 0 = 47))
end Go.Proofs.YtohocomemkckeaaDoor

/-! THE PARTS OF A PATH, AND WHETHER A TEXT IS ONE: the document's own (donjonref7). -/
namespace Go.Proofs.YtohocomemkckeaaDoor
open Go.RowKit
set_option linter.unusedSimpArgs false
set_option maxRecDepth 8000
set_option linter.unusedVariables false
/-- A list of texts of the call's own. -/
def OwnS (w : World) (base : Nat) (v : Value) (l : List ByteArray) : Prop := w.ownsRow base 9 1 v l.length (l.map Value.string)
theorem ownS_nil (w : World) (base : Nat) : OwnS w base (.slice none 0 0) [] := World.ownsRow_nil _ _ _ _
theorem OwnS.slice {w : World} {base : Nat} {v : Value} {l : List ByteArray} (h : OwnS w base v l) {n : Nat} (hn : l.length = n) : ∃ a cap, v = .slice a n cap := by
  rcases h.2 with ⟨rfl, h2⟩ | ⟨g, cap, cur, rfl, _⟩
  · exact ⟨none, 0, by rw [← hn, h2]⟩
  · exact ⟨_, cap, by rw [hn]⟩
theorem OwnS.at {w : World} {base : Nat} {v : Value} {l : List ByteArray} (h : OwnS w base v l) {n : Nat} (hn : l.length = n) {i : Nat} {x : ByteArray} (hx : l[i]? = some x) : ∃ g cap, v = .slice (some ⟨g, 0, none⟩) n cap ∧ w.cell? ⟨g, i, none⟩ = some (.string x) ∧ base ≤ g ∧ g < w.heap.size := by
  have hi := (List.getElem?_eq_some_iff.1 hx).1
  have hrow : w.ownsRow base 9 1 v l.length (l.map Value.string) := h
  rcases h.2 with ⟨_, h2⟩ | ⟨g, cap, cur, rfl, hb, _⟩
  · omega
  · refine ⟨g, cap, by rw [hn], ?_, hb, (hrow.lt g rfl).2⟩
    rw [hrow.cellAt i (by omega), List.getElem?_map, hx]
    rfl
theorem OwnS.below {w w' : World} {base : Nat} {v : Value} {l : List ByteArray} (h : OwnS w base v l) (b : Below w.heap.size w w') : OwnS w' base v l := by
  refine ⟨h.1, ?_⟩
  rcases h.2 with h1 | ⟨g, cap, cur, hv, hb, hg, rest⟩
  · exact .inl h1
  · exact .inr ⟨g, cap, cur, hv, hb, (b.block g (Array.getElem?_eq_some_iff.1 hg).1).trans hg, rest⟩
theorem info_str : (Tryd.prog.info? 9).map (fun i => (i.zero, i.size, i.bytes)) = some (some (.string ⟨#[]⟩), 1, 16) := by kernel_rfl
theorem info_strs : ∃ i, Tryd.prog.info? 9 = some i ∧ i.zero = some (.string ⟨#[]⟩) ∧ i.size = 1 ∧ i.bytes = 16 := by
  have := info_str
  cases h : Tryd.prog.info? 9 with
  | none => rw [h] at this; cases this
  | some i =>
    rw [h] at this
    have hq : (i.zero, i.size, i.bytes) = (some (.string ⟨#[]⟩), 1, 16) := by simpa using this
    exact ⟨i, rfl, congrArg Prod.fst hq, congrArg (fun p => p.2.1) hq, congrArg (fun p => p.2.2) hq⟩
/-- append of one text that was typed. -/
theorem append_str (W : World) (base : Nat) (v : Value) (l : List ByteArray) (x : ByteArray) (hown : OwnS W base v l) (hb : base ≤ W.heap.size) (hl : l.length < 900000) :
    ∃ v' W', (Builtin.append_ #[67, 67] 67 #[v, .slice (some ⟨W.heap.size, 0, none⟩) 1 1]).run Tryd.prog (W.alloc (.cells #[.string x] 9)) = .ok v' W' ∧ OwnS W' base v' (l ++ [x]) ∧ Below base W W' := by
  obtain ⟨i, hi, hz, hs, hby⟩ := info_strs
  have ho : (W.alloc (.cells #[.string x] 9)).ownsRow base 9 1 v l.length (l.map Value.string) := World.ownsRow.alloc hown _
  obtain ⟨v', W', h1, h2, h3, _⟩ := run_append_own (P := Tryd.prog) (W.alloc (.cells #[.string x] 9)) base 67 67 9 i _ 1 16 Tryd.underlying67 hi hz hs hby rfl (by decide) v l.length (l.map Value.string) ho ⟨W.heap.size, 0, none⟩ 1 1 [.string x] rfl (fun j u hu => by
    have hj : j = 0 := by have := (List.getElem?_eq_some_iff.1 hu).1; simp at this; exact this
    subst hj
    simp at hu
    subst hu
    rw [show (⟨W.heap.size, 0, none⟩ : Addr).add 0 = ⟨W.heap.size, 0, none⟩ by simp [Addr.add], World.cell?_alloc_at _ _ _ _ rfl]
    rfl) (by simp [Value.oneCell']) (by simp only [maxLen]; omega) (by omega) (by simp; omega)
  refine ⟨v', W', h1, ?_, ?_⟩
  · unfold OwnS
    rw [List.map_append, List.length_append]
    exact h2
  · exact ((Below.refl base W).alloc hb _).grown h3 (by simp; omega) (fun k hk => (ho.lt k hk).1)
section
variable {ops : Array Oper} {rest : List Oper} {o : Oper} {a : Act} {w : World} {Q : Exit → Act → World → Prop}
/-- append, by its run. -/
theorem wpList_append_str (hg : o.guard = none) (x y : Operand) (ho : o.op = .call { callee := .builtin .append, args := #[x, y], argTypes := #[67, 67] }) (hty : o.type = 67) {u v r : Value} {w' : World} (hx : a.eval x = u) (hy : a.eval y = v)
    (hc : (Builtin.append_ #[67, 67] 67 #[u, v]).run Tryd.prog w = .ok r w')
    (h : wpList Tryd.prog ops Q rest (a.put o.dst r) w') : wpList Tryd.prog ops Q (o :: rest) a w := by
  refine wpList_value hg ?_ h
  unfold execOp
  simp only [ho, hty, resolve, invoke, builtin, Sem.run_bind, Sem.run_pure, Result.andThen_ok]
  simp [hx, hy, hc, Result.andThen]
end

/-- The parts that end among the first i places, and where the next one begins. -/
def partsTo (u : ByteArray) : Nat → Nat × List ByteArray
  | 0 => (1, [])
  | i + 1 => if i + 1 = u.size ∨ u.data.toList.getD (i + 1) 0 = 47 then (i + 2, (partsTo u i).2 ++ [u.extract (partsTo u i).1 (i + 1)]) else partsTo u i
def partsOf (u : ByteArray) : List ByteArray := if u.size ≤ 1 then [] else (partsTo u u.size).2
theorem partsTo_lo (u : ByteArray) : ∀ i, 1 ≤ (partsTo u i).1 ∧ (partsTo u i).1 ≤ i + 1 ∧ (partsTo u i).2.length ≤ i
  | 0 => ⟨Nat.le_refl _, Nat.le_refl _, Nat.le_refl _⟩
  | i + 1 => by
    obtain ⟨h1, h2, h3⟩ := partsTo_lo u i
    unfold partsTo
    split
    · refine ⟨by simp, by simp, by simp; omega⟩
    · exact ⟨h1, by omega, by omega⟩

/-- What the document's own Check answers. -/
def checkOf (u : ByteArray) : Int :=
  if 78 < u.size then 5 else if eqs u slashS = true then 0 else if u.size < 2 ∨ u.data.toList.getD 0 0 ≠ 47 then 1
  else if 6 < (partsOf u).length then 1 else if (partsOf u).all name = true then 0 else 1
theorem parts_small (u : ByteArray) : ∀ x ∈ partsOf u, x.size ≤ u.size := by
  have key : ∀ i, ∀ x ∈ (partsTo u i).2, x.size ≤ u.size := by
    intro i
    induction i with
    | zero => intro x hx; simp [partsTo] at hx
    | succ i ih =>
      intro x hx
      unfold partsTo at hx
      split at hx
      · rcases List.mem_append.1 hx with hx | hx
        · exact ih x hx
        · simp at hx
          subst hx
          simp
          omega
      · exact ih x hx
  intro x hx
  unfold partsOf at hx
  split at hx
  · cases hx
  · exact key _ x hx
end Go.Proofs.YtohocomemkckeaaDoor

/-! PATHS AS LISTS OF NAMES, IN PLAIN WORDS: what the document's functions tell of them. -/
namespace Go.Proofs.YtohocomemkckeaaDoor
set_option linter.unusedSimpArgs false
set_option linter.unusedVariables false

abbrev bytes (u : ByteArray) : List UInt8 := u.data.toList
theorem bytes_len (u : ByteArray) : (bytes u).length = u.size := Array.length_toList
theorem bytes_inj {u v : ByteArray} (h : bytes u = bytes v) : u = v := ByteArray.ext (Array.ext' h)
theorem bytes_extract (u : ByteArray) (i j : Nat) : bytes (u.extract i j) = ((bytes u).take j).drop i := by
  simp [bytes, ByteArray.data_extract, List.drop_take]
theorem bytes_append (a b : ByteArray) : bytes (a ++ b) = bytes a ++ bytes b := ByteArray.toList_data_append
theorem bytes_slash : bytes slashS = [47] := rfl

/-- Names, a slash ahead of each. -/
def body : List ByteArray → List UInt8
  | [] => []
  | n :: r => 47 :: (bytes n ++ body r)
theorem body_append : ∀ a b : List ByteArray, body (a ++ b) = body a ++ body b
  | [], b => rfl
  | n :: r, b => by simp [body, body_append r b]
theorem body_one (n : ByteArray) : body [n] = 47 :: bytes n := by simp [body]
/-- The path of names. -/
def pathB (ns : List ByteArray) : ByteArray := if ns = [] then slashS else ⟨(body ns).toArray⟩
theorem pathB_bytes {ns : List ByteArray} (h : ns ≠ []) : bytes (pathB ns) = body ns := by simp [pathB, h, bytes]
theorem pathB_nil : pathB [] = slashS := by simp [pathB]
/-- No slash within. -/
def Flat (n : ByteArray) : Prop := ∀ c ∈ bytes n, c ≠ 47
theorem name_flat {n : ByteArray} (h : name n = true) : Flat n := by
  intro c hc e
  simp only [name, Bool.and_eq_true, decide_eq_true_eq, List.all_eq_true] at h
  have := h.2.2 c hc
  rw [e] at this
  revert this
  decide
theorem name_size {n : ByteArray} (h : name n = true) : 1 ≤ n.size ∧ n.size ≤ 12 := by
  simp only [name, Bool.and_eq_true, decide_eq_true_eq] at h
  exact ⟨h.1, h.2.1⟩
theorem eqs_bytes {a b : ByteArray} : eqs a b = true ↔ bytes a = bytes b := by
  unfold eqs
  rw [toL, toL]
  simp

/-! ### Parts, of any text that begins with a slash -/
theorem take_split (l : List UInt8) (f j : Nat) (hj : j ≤ l.length) (hf : f < j) (h : l.getD f 0 = 47) : l.take j = l.take f ++ 47 :: (l.take j).drop (f + 1) := by
  have hl : (l.take j).length = j := by rw [List.length_take]; omega
  have e1 : l.take f = (l.take j).take f := by rw [List.take_take, Nat.min_eq_left (by omega)]
  have e2 : (l.take j)[f]'(by omega) = 47 := by
    rw [List.getElem_take]
    have : l.getD f 0 = l[f]'(by omega) := by simp [show f < l.length by omega]
    rw [← this, h]
  conv => lhs; rw [← List.take_append_drop f (l.take j)]
  rw [← e1, List.drop_eq_getElem_cons (by omega), e2]
theorem parts_inv {u : ByteArray} (h0 : (bytes u).getD 0 0 = 47) : ∀ i, i < u.size → 1 ≤ (partsTo u i).1 ∧ (partsTo u i).1 ≤ i + 1 ∧ (bytes u).take ((partsTo u i).1 - 1) = body (partsTo u i).2 ∧ (bytes u).getD ((partsTo u i).1 - 1) 0 = 47
  | 0, _ => ⟨Nat.le_refl _, Nat.le_refl _, rfl, h0⟩
  | i + 1, hi => by
    obtain ⟨h1, h2, h3, h4⟩ := parts_inv h0 i (by omega)
    unfold partsTo
    split
    · rename_i hc
      have hb : (bytes u).getD (i + 1) 0 = 47 := by
        rcases hc with hc | hc
        · omega
        · exact hc
      refine ⟨by simp, by simp, ?_, by simpa using hb⟩
      show (bytes u).take (i + 2 - 1) = body ((partsTo u i).2 ++ [u.extract (partsTo u i).1 (i + 1)])
      rw [body_append, body_one, bytes_extract, ← h3]
      obtain ⟨f, hf⟩ : ∃ f, (partsTo u i).1 = f + 1 := ⟨(partsTo u i).1 - 1, by omega⟩
      rw [hf] at h4 ⊢
      simp only [Nat.add_sub_cancel] at h4 ⊢
      exact take_split (bytes u) f (i + 1) (by rw [bytes_len]; omega) (by omega) h4
    · exact ⟨h1, by omega, h3, h4⟩
theorem parts_whole {u : ByteArray} (h0 : (bytes u).getD 0 0 = 47) (h2 : 2 ≤ u.size) : body (partsOf u) = bytes u ∧ partsOf u ≠ [] := by
  obtain ⟨m, hm⟩ : ∃ m, u.size = m + 1 := ⟨u.size - 1, by omega⟩
  obtain ⟨h1, hle, h3, h4⟩ := parts_inv h0 m (by omega)
  have hp : partsTo u u.size = (m + 2, (partsTo u m).2 ++ [u.extract (partsTo u m).1 (m + 1)]) := by
    rw [hm]
    show (if m + 1 = u.size ∨ _ then _ else _) = _
    rw [if_pos (.inl hm.symm)]
  rw [partsOf, if_neg (by omega), hp]
  refine ⟨?_, by simp⟩
  rw [body_append, body_one, bytes_extract, ← h3]
  obtain ⟨f, hf⟩ : ∃ f, (partsTo u m).1 = f + 1 := ⟨(partsTo u m).1 - 1, by omega⟩
  rw [hf] at h4 ⊢
  simp only [Nat.add_sub_cancel] at h4 ⊢
  rw [← take_split (bytes u) f (m + 1) (by rw [bytes_len]; omega) (by omega) h4]
  exact List.take_of_length_le (by rw [bytes_len]; omega)

/-- What Check allows: the path of 0 to 6 names. -/
def Names (ns : List ByteArray) : Prop := ns.length ≤ 6 ∧ ∀ n ∈ ns, name n = true
theorem check_path {u : ByteArray} (h : checkOf u = 0) : ∃ ns, Names ns ∧ u = pathB ns ∧ u.size ≤ 78 := by
  unfold checkOf at h
  split at h
  · cases h
  · rename_i h78
    split at h
    · rename_i hs
      exact ⟨[], ⟨by simp, by simp⟩, by rw [pathB_nil]; exact eqs_iff.1 hs, by omega⟩
    · split at h
      · cases h
      · rename_i hc
        rw [not_or] at hc
        split at h
        · cases h
        · split at h
          · rename_i h6 hall
            have h0 : (bytes u).getD 0 0 = 47 := by simpa using hc.2
            obtain ⟨hb, hne⟩ := parts_whole h0 (by omega)
            refine ⟨partsOf u, ⟨by omega, List.all_eq_true.1 hall⟩, bytes_inj ?_, by omega⟩
            rw [pathB_bytes hne, hb]
          · cases h

/-! ### The last slash -/
theorem slash_last (u : ByteArray) (A : List UInt8) (n : ByteArray) (hf : Flat n) (hu : bytes u = A ++ 47 :: bytes n) : ∀ j, j ≤ n.size → slashTo u (A.length + 1 + j) = A.length
  | 0, _ => by
    show (if (bytes u).getD A.length 0 = 47 then A.length else _) = _
    rw [if_pos]
    rw [hu, List.getD_eq_getElem?_getD, List.getElem?_append_right (Nat.le_refl _)]
    simp
  | j + 1, hj => by
    have hjl : j < (bytes n).length := by rw [bytes_len]; omega
    show (if (bytes u).getD (A.length + 1 + j) 0 = 47 then _ else slashTo u (A.length + 1 + j)) = _
    rw [if_neg]
    · exact slash_last u A n hf hu j (by omega)
    · rw [hu, List.getD_eq_getElem?_getD, List.getElem?_append_right (by omega), show A.length + 1 + j - A.length = j + 1 by omega, List.getElem?_cons_succ, List.getElem?_eq_getElem hjl]
      exact hf _ (List.getElem_mem hjl)
theorem slash_path {ns : List ByteArray} {n : ByteArray} (hf : Flat n) : slashTo (pathB (ns ++ [n])) (pathB (ns ++ [n])).size = (body ns).length := by
  have hb : bytes (pathB (ns ++ [n])) = body ns ++ 47 :: bytes n := by rw [pathB_bytes (by simp), body_append, body_one]
  have hs : (pathB (ns ++ [n])).size = (body ns).length + 1 + n.size := by
    rw [← bytes_len, hb, List.length_append, List.length_cons, bytes_len]
    omega
  rw [hs]
  exact slash_last _ _ _ hf hb _ (Nat.le_refl _)
theorem path_size (ns : List ByteArray) (n : ByteArray) : (pathB (ns ++ [n])).size = (body ns).length + 1 + n.size := by
  rw [← bytes_len, pathB_bytes (by simp), body_append, body_one, List.length_append, List.length_cons, bytes_len]
  omega
theorem body_pos {ns : List ByteArray} (h : ns ≠ []) : (body ns).length ≠ 0 := by
  cases ns with
  | nil => exact absurd rfl h
  | cons a r => simp [body]
theorem parent_path {ns : List ByteArray} {n : ByteArray} (hf : Flat n) (hn : 1 ≤ n.size) : parentOf (pathB (ns ++ [n])) = pathB ns := by
  have hsz := path_size ns n
  unfold parentOf
  rw [if_neg (by omega), slash_path hf]
  by_cases h : ns = []
  · subst h
    rw [if_pos (show (body []).length = 0 from rfl), pathB_nil]
    rfl
  · rw [if_neg (body_pos h)]
    apply bytes_inj
    rw [bytes_extract, pathB_bytes (by simp), pathB_bytes h, body_append]
    simp
theorem last_path {ns : List ByteArray} {n : ByteArray} (hf : Flat n) (hn : 1 ≤ n.size) : lastOf (pathB (ns ++ [n])) = n := by
  have hsz := path_size ns n
  unfold lastOf
  rw [if_neg (by omega), slash_path hf]
  apply bytes_inj
  rw [bytes_extract, List.take_of_length_le (by rw [bytes_len]; exact Nat.le_refl _), pathB_bytes (by simp), body_append, body_one]
  rw [show (body ns).length + 1 = (body ns ++ [47]).length by simp, show body ns ++ 47 :: bytes n = (body ns ++ [47]) ++ bytes n by simp, List.drop_left]
theorem parent_root : parentOf (pathB []) = ⟨#[]⟩ := by rw [pathB_nil]; rfl
theorem last_root : lastOf (pathB []) = ⟨#[]⟩ := by rw [pathB_nil]; rfl
theorem path_root {ns : List ByteArray} (hf : ∀ n ∈ ns, 1 ≤ n.size) : eqs (pathB ns) slashS = true ↔ ns = [] := by
  rw [eqs_bytes]
  constructor
  · intro h
    cases ns with
    | nil => rfl
    | cons a r =>
      rw [pathB_bytes (by simp), bytes_slash] at h
      have h1 := congrArg List.length h
      have h2 := hf a (by simp)
      rw [← bytes_len] at h2
      simp [body] at h1
      rw [bytes_len] at h2
      have : (bytes a).length = 0 := by rw [h1.1]; rfl
      rw [bytes_len] at this
      omega
  · rintro rfl
    rw [pathB_nil]
theorem join_path {ns : List ByteArray} (n : ByteArray) (hf : ∀ n ∈ ns, 1 ≤ n.size) : joinOf (pathB ns) n = pathB (ns ++ [n]) := by
  unfold joinOf
  by_cases h : ns = []
  · subst h
    rw [if_pos ((path_root (by simp)).2 rfl)]
    apply bytes_inj
    rw [bytes_append, pathB_nil, bytes_slash, pathB_bytes (by simp)]
    simp [body]
  · rw [if_neg (fun e => h ((path_root hf).1 e))]
    apply bytes_inj
    rw [bytes_append, bytes_append, pathB_bytes h, bytes_slash, pathB_bytes (by simp), body_append, body_one]
    simp

/-! ### Which lies below which -/
theorem split_flat : ∀ (n m X Y : List UInt8), (∀ c ∈ n, c ≠ 47) → (∀ c ∈ m, c ≠ 47) → (X = [] ∨ ∃ r, X = 47 :: r) → (Y = [] ∨ ∃ r, Y = 47 :: r) → n ++ X = m ++ Y → n = m ∧ X = Y
  | [], [], X, Y, _, _, _, _, h => ⟨rfl, h⟩
  | [], c :: m, X, Y, _, hm, hX, _, h => by
    rcases hX with rfl | ⟨r, rfl⟩
    · simp at h
    · simp at h
      exact absurd h.1.symm (hm c (by simp))
  | c :: n, [], X, Y, hn, _, _, hY, h => by
    rcases hY with rfl | ⟨r, rfl⟩
    · simp at h
    · simp at h
      exact absurd h.1 (hn c (by simp))
  | c :: n, d :: m, X, Y, hn, hm, hX, hY, h => by
    simp only [List.cons_append, List.cons.injEq] at h
    obtain ⟨h1, h2⟩ := split_flat n m X Y (fun x hx => hn x (by simp [hx])) (fun x hx => hm x (by simp [hx])) hX hY h.2
    exact ⟨by rw [h.1, h1], h2⟩
theorem body_head (ns : List ByteArray) : body ns = [] ∨ ∃ r, body ns = 47 :: r := by
  cases ns with
  | nil => exact .inl rfl
  | cons a r => exact .inr ⟨_, rfl⟩
theorem body_prefix : ∀ (b a : List ByteArray) (r : List UInt8), (∀ n ∈ b, Flat n) → (∀ n ∈ a, Flat n) → body a = body b ++ 47 :: r → ∃ c, a = b ++ c ∧ c ≠ []
  | [], a, r, _, _, h => ⟨a, rfl, fun e => by rw [e] at h; simp [body] at h⟩
  | n :: b, [], r, _, _, h => by simp [body] at h
  | n :: b, m :: a, r, hb, ha, h => by
    simp only [body, List.cons_append, List.cons.injEq, true_and, List.append_assoc] at h
    obtain ⟨h1, h2⟩ := split_flat (bytes m) (bytes n) (body a) (body b ++ 47 :: r) (ha m (by simp)) (hb n (by simp)) (body_head a) (by
      rcases body_head b with e | ⟨x, e⟩
      · rw [e]; exact .inr ⟨r, rfl⟩
      · rw [e]; exact .inr ⟨_, rfl⟩) h
    obtain ⟨c, hc, hne⟩ := body_prefix b a r (fun x hx => hb x (by simp [hx])) (fun x hx => ha x (by simp [hx])) h2
    exact ⟨c, by rw [hc, bytes_inj h1]; rfl, hne⟩
theorem in_path {a b : List ByteArray} (ha : ∀ n ∈ a, Flat n ∧ 1 ≤ n.size) (hb : ∀ n ∈ b, Flat n ∧ 1 ≤ n.size) : inOf (pathB a) (pathB b) = true ↔ ∃ c, a = b ++ c ∧ c ≠ [] := by
  unfold inOf
  by_cases h : b = []
  · subst h
    rw [if_pos ((path_root (by simp)).2 rfl)]
    simp only [decide_eq_true_eq, List.nil_append]
    constructor
    · intro h1
      refine ⟨a, rfl, fun e => ?_⟩
      subst e
      rw [pathB_nil] at h1
      exact absurd h1 (by decide)
    · rintro ⟨c, rfl, hne⟩
      cases a with
      | nil => exact absurd rfl hne
      | cons n r =>
        have h2 := (ha n (by simp)).2
        rw [← bytes_len, pathB_bytes (by simp)]
        simp only [body, List.length_cons, List.length_append]
        rw [bytes_len]
        omega
  · rw [if_neg (fun e => h ((path_root (fun n hn => (hb n hn).2)).1 e))]
    simp only [Bool.and_eq_true, decide_eq_true_eq]
    constructor
    · rintro ⟨h1, h2, h3⟩
      have hane : a ≠ [] := by
        rintro rfl
        rw [pathB_nil] at h1
        have : (pathB b).size = 0 := by have : slashS.size = 1 := rfl; omega
        rw [← bytes_len, pathB_bytes h] at this
        exact body_pos h this
      rw [eqs_bytes, bytes_extract] at h2
      rw [← bytes_len, ← bytes_len, pathB_bytes h, pathB_bytes hane] at h1
      rw [← bytes_len, pathB_bytes h, pathB_bytes hane] at h2
      rw [← bytes_len, pathB_bytes h] at h3
      have h3' : (body a).getD (body b).length 0 = 47 := by rw [← pathB_bytes hane]; exact h3
      simp only [List.drop_zero] at h2
      have hsplit : body a = body b ++ 47 :: (body a).drop ((body b).length + 1) := by
        conv => lhs; rw [← List.take_append_drop (body b).length (body a)]
        rw [h2, List.drop_eq_getElem_cons h1]
        congr 2
        rw [List.getD_eq_getElem?_getD, List.getElem?_eq_getElem h1] at h3'
        exact h3'
      exact body_prefix b a _ (fun n hn => (hb n hn).1) (fun n hn => (ha n hn).1) hsplit
    · rintro ⟨c, rfl, hne⟩
      have hane : b ++ c ≠ [] := by simp [h]
      obtain ⟨r, hr⟩ : ∃ r, body c = 47 :: r := by
        rcases body_head c with e | e
        · exact absurd (by rw [e]; rfl) (body_pos hne)
        · exact e
      have e1 : body (b ++ c) = body b ++ 47 :: r := by rw [body_append, hr]
      refine ⟨?_, ?_, ?_⟩
      · rw [← bytes_len, ← bytes_len, pathB_bytes h, pathB_bytes hane, e1]
        simp
      · rw [eqs_bytes, bytes_extract, ← bytes_len, pathB_bytes h, pathB_bytes hane, e1]
        simp
      · show (bytes (pathB (b ++ c))).getD (pathB b).size 0 = 47
        rw [← bytes_len, pathB_bytes h, pathB_bytes hane, e1, List.getD_eq_getElem?_getD, List.getElem?_append_right (Nat.le_refl _)]
        simp

/-! ### The parts of a path are its names -/
theorem flat_extract (u : ByteArray) (f i : Nat) (h : ∀ q, f ≤ q → q ≤ i → (bytes u).getD q 0 ≠ 47) : Flat (u.extract f (i + 1)) := by
  intro c hc
  rw [bytes_extract] at hc
  obtain ⟨j, hj, rfl⟩ := List.mem_iff_getElem.1 hc
  rw [List.length_drop, List.length_take] at hj
  rw [List.getElem_drop, List.getElem_take]
  have := h (f + j) (by omega) (by omega)
  rwa [List.getD_eq_getElem?_getD, List.getElem?_eq_getElem (by omega)] at this
theorem parts_flat_inv (u : ByteArray) : ∀ i, i < u.size → (∀ x ∈ (partsTo u i).2, Flat x) ∧ ∀ q, (partsTo u i).1 ≤ q → q ≤ i → (bytes u).getD q 0 ≠ 47
  | 0, _ => ⟨by simp [partsTo], fun q h1 h2 => by have : (partsTo u 0).1 = 1 := rfl; omega⟩
  | i + 1, hi => by
    obtain ⟨h1, h2⟩ := parts_flat_inv u i (by omega)
    unfold partsTo
    split
    · refine ⟨fun x hx => ?_, fun q hq hq2 => by have h9 : i + 2 ≤ q := hq; omega⟩
      rcases List.mem_append.1 hx with hx | hx
      · exact h1 x hx
      · simp at hx
        subst hx
        exact flat_extract u _ _ h2
    · rename_i hc
      rw [not_or] at hc
      refine ⟨h1, fun q hq hq2 => ?_⟩
      by_cases e : q = i + 1
      · subst e; exact hc.2
      · exact h2 q hq (by omega)
theorem parts_flat (u : ByteArray) : ∀ x ∈ partsOf u, Flat x := by
  unfold partsOf
  split
  · simp
  · obtain ⟨m, hm⟩ : ∃ m, u.size = m + 1 := ⟨u.size - 1, by omega⟩
    obtain ⟨h1, h2⟩ := parts_flat_inv u m (by omega)
    have hp : partsTo u u.size = (m + 2, (partsTo u m).2 ++ [u.extract (partsTo u m).1 (m + 1)]) := by
      rw [hm]
      show (if m + 1 = u.size ∨ _ then _ else _) = _
      rw [if_pos (.inl hm.symm)]
    rw [hp]
    intro x hx
    rcases List.mem_append.1 hx with hx | hx
    · exact h1 x hx
    · simp at hx
      subst hx
      exact flat_extract u _ _ h2
theorem body_inj : ∀ (a b : List ByteArray), (∀ n ∈ a, Flat n) → (∀ n ∈ b, Flat n) → body a = body b → a = b
  | [], [], _, _, _ => rfl
  | [], n :: b, _, _, h => by simp [body] at h
  | n :: a, [], _, _, h => by simp [body] at h
  | n :: a, m :: b, ha, hb, h => by
    simp only [body, List.cons.injEq, true_and] at h
    obtain ⟨h1, h2⟩ := split_flat (bytes n) (bytes m) (body a) (body b) (ha n (by simp)) (hb m (by simp)) (body_head a) (body_head b) h
    rw [bytes_inj h1, body_inj a b (fun x hx => ha x (by simp [hx])) (fun x hx => hb x (by simp [hx])) h2]
theorem parts_path {ns : List ByteArray} (hf : ∀ n ∈ ns, Flat n ∧ 1 ≤ n.size) : partsOf (pathB ns) = ns := by
  cases ns with
  | nil => rw [pathB_nil]; rfl
  | cons n r =>
    have hb : bytes (pathB (n :: r)) = body (n :: r) := pathB_bytes (by simp)
    have hs : 2 ≤ (pathB (n :: r)).size := by
      have := (hf n (by simp)).2
      rw [← bytes_len, hb]
      simp only [body, List.length_cons, List.length_append]
      rw [bytes_len]
      omega
    obtain ⟨h1, _⟩ := parts_whole (u := pathB (n :: r)) (by rw [hb]; rfl) hs
    exact body_inj _ _ (parts_flat _) (fun x hx => (hf x hx).1) (h1.trans hb)
theorem Names.flat {ns : List ByteArray} (h : Names ns) : ∀ n ∈ ns, Flat n ∧ 1 ≤ n.size := fun n hn => ⟨name_flat (h.2 n hn), (name_size (h.2 n hn)).1⟩
theorem body_len : ∀ (ns : List ByteArray), (∀ n ∈ ns, name n = true) → (body ns).length ≤ 13 * ns.length
  | [], _ => Nat.le_refl _
  | n :: r, h => by
    have h1 := (name_size (h n (by simp))).2
    have h2 := body_len r (fun x hx => h x (by simp [hx]))
    simp only [body, List.length_cons, List.length_append]
    rw [bytes_len]
    omega
theorem names_size {ns : List ByteArray} (h : Names ns) : (pathB ns).size ≤ 78 := by
  cases ns with
  | nil => rw [pathB_nil]; decide
  | cons n r =>
    have := body_len _ h.2
    have h1 := h.1
    rw [← bytes_len, pathB_bytes (by simp)]
    omega
theorem check_names {ns : List ByteArray} (h : Names ns) : checkOf (pathB ns) = 0 := by
  have hs := names_size h
  unfold checkOf
  rw [if_neg (by omega)]
  by_cases h0 : ns = []
  · subst h0
    rw [if_pos ((path_root (by simp)).2 rfl)]
  · rw [if_neg (fun e => h0 ((path_root (fun n hn => (h.flat n hn).2)).1 e)), parts_path h.flat]
    have hb : bytes (pathB ns) = body ns := pathB_bytes h0
    have h2 : ¬ ((pathB ns).size < 2 ∨ (pathB ns).data.toList.getD 0 0 ≠ 47) := by
      cases ns with
      | nil => exact absurd rfl h0
      | cons n r =>
        have := (h.flat n (by simp)).2
        rw [not_or]
        constructor
        · rw [← bytes_len, hb]
          simp only [body, List.length_cons, List.length_append]
          rw [bytes_len]
          omega
        · show ¬ (bytes (pathB (n :: r))).getD 0 0 ≠ 47
          rw [hb]
          simp [body]
    rw [if_neg h2, if_neg (by have := h.1; omega), if_pos (List.all_eq_true.2 h.2)]
end Go.Proofs.YtohocomemkckeaaDoor

/-! TEXTS IN THEIR ORDER, byte by byte. -/
namespace Go.Proofs.YtohocomemkckeaaDoor
set_option linter.unusedSimpArgs false
set_option linter.unusedVariables false

def lt (a b : ByteArray) : Bool := Op.bytesLess a.toList b.toList
def cmpB (a b : ByteArray) : Int := Lib.compareBytes a.data.toList b.data.toList
theorem cmp_facts : ∀ a b : List UInt8, (Lib.compareBytes a b < 0 ↔ Op.bytesLess a b = true) ∧ (Lib.compareBytes a b = 0 ↔ a = b)
  | [], [] => by simp [Lib.compareBytes, Op.bytesLess]
  | [], _ :: _ => by simp [Lib.compareBytes, Op.bytesLess]
  | _ :: _, [] => by simp [Lib.compareBytes, Op.bytesLess]
  | a :: xs, b :: ys => by
    have ih := cmp_facts xs ys
    unfold Lib.compareBytes Op.bytesLess
    by_cases h1 : a < b
    · have : a ≠ b := fun e => by subst e; exact UInt8.lt_irrefl _ h1
      simp [h1, this]
    · by_cases h2 : b < a
      · have : a ≠ b := fun e => by subst e; exact UInt8.lt_irrefl _ h2
        simp [h1, h2, this]
      · have h3 : a = b := UInt8.le_antisymm (UInt8.not_lt.1 h2) (UInt8.not_lt.1 h1)
        subst h3
        simp [h1, ih]
theorem cmp_lt (a b : ByteArray) : cmpB a b < 0 ↔ lt a b = true := by
  unfold cmpB lt
  rw [toL, toL]
  exact (cmp_facts _ _).1
theorem cmp_eq0 (a b : ByteArray) : cmpB a b = 0 ↔ a = b := by
  unfold cmpB
  rw [(cmp_facts _ _).2, ← eqs_iff]
  unfold eqs
  rw [toL, toL]
  simp
theorem less_irrefl : ∀ a : List UInt8, Op.bytesLess a a = false
  | [] => rfl
  | a :: xs => by simp [Op.bytesLess, less_irrefl xs, UInt8.lt_irrefl]
theorem less_trans : ∀ a b c : List UInt8, Op.bytesLess a b = true → Op.bytesLess b c = true → Op.bytesLess a c = true
  | _, [], [], _, h => by simp [Op.bytesLess] at h
  | [], [], _ :: _, h, _ => by simp [Op.bytesLess] at h
  | [], _ :: _, [], _, h => by simp [Op.bytesLess] at h
  | [], _ :: _, _ :: _, _, _ => rfl
  | _ :: _, [], _, h, _ => by simp [Op.bytesLess] at h
  | _ :: _, _ :: _, [], _, h => by simp [Op.bytesLess] at h
  | a :: xs, b :: ys, c :: zs, h1, h2 => by
    have ih := less_trans xs ys zs
    simp only [Op.bytesLess] at h1 h2 ⊢
    have hab : a < b ∨ (a = b ∧ Op.bytesLess xs ys = true) := by
      by_cases h : a < b
      · exact .inl h
      · right
        by_cases h' : a = b
        · subst h'; simp [h] at h1; exact ⟨rfl, h1⟩
        · simp [h, h'] at h1
    have hbc : b < c ∨ (b = c ∧ Op.bytesLess ys zs = true) := by
      by_cases h : b < c
      · exact .inl h
      · right
        by_cases h' : b = c
        · subst h'; simp [h] at h2; exact ⟨rfl, h2⟩
        · simp [h, h'] at h2
    rcases hab with h | ⟨rfl, h⟩
    · have : a < c := by
        rcases hbc with k | ⟨rfl, _⟩
        · exact UInt8.lt_trans h k
        · exact h
      simp [this]
    · rcases hbc with k | ⟨rfl, k⟩
      · simp [k]
      · simp [ih h k, UInt8.lt_irrefl]
theorem lt_irrefl (a : ByteArray) : lt a a = false := less_irrefl _
theorem lt_trans {a b c : ByteArray} (h : lt a b = true) (k : lt b c = true) : lt a c = true := less_trans _ _ _ h k
theorem lt_ne {a b : ByteArray} (h : lt a b = true) : a ≠ b := fun e => by subst e; rw [lt_irrefl] at h; cases h
theorem lt_asymm {a b : ByteArray} (h : lt a b = true) : lt b a = false := by
  cases hb : lt b a
  · rfl
  · have := lt_trans h hb; rw [lt_irrefl] at this; cases this
theorem cmp_anti : ∀ a b : List UInt8, 0 < Lib.compareBytes a b → Op.bytesLess b a = true
  | [], [], h => by simp [Lib.compareBytes] at h
  | [], _ :: _, h => by simp [Lib.compareBytes] at h
  | _ :: _, [], _ => rfl
  | a :: xs, b :: ys, h => by
    have ih := cmp_anti xs ys
    unfold Lib.compareBytes at h
    unfold Op.bytesLess
    by_cases h1 : a < b
    · simp [h1] at h
    · by_cases h2 : b < a
      · simp [h2]
      · have h3 : a = b := UInt8.le_antisymm (UInt8.not_lt.1 h2) (UInt8.not_lt.1 h1)
        subst h3
        simp [h1] at h ⊢
        exact ih h
theorem lt_total (a b : ByteArray) : lt a b = true ∨ a = b ∨ lt b a = true := by
  rcases Int.lt_trichotomy (cmpB a b) 0 with h | h | h
  · exact .inl ((cmp_lt a b).1 h)
  · exact .inr (.inl ((cmp_eq0 a b).1 h))
  · refine .inr (.inr ?_)
    unfold lt
    rw [toL, toL]
    exact cmp_anti _ _ h

theorem leq_of {a b : ByteArray} (h : lt a b = false) : (Op.bytesLess b.toList a.toList || b.toList == a.toList) = true := by
  rcases lt_total a b with h1 | h1 | h1
  · rw [h] at h1; cases h1
  · subst h1; simp
  · have : Op.bytesLess b.toList a.toList = true := h1
    simp [this]
theorem leq_not {a b : ByteArray} (h : lt a b = true) : (Op.bytesLess b.toList a.toList || b.toList == a.toList) = false := by
  have h1 : Op.bytesLess b.toList a.toList = false := lt_asymm h
  have h2 : (b.toList == a.toList) = false := eqs_ne (lt_ne h).symm
  rw [h1, h2]; rfl
end Go.Proofs.YtohocomemkckeaaDoor

/-! LISTS OF GRANTS, as plain data: users in order, what Check, Modes and Set answer of them. -/
namespace Go.Proofs.YtohocomemkckeaaDoor
def star : ByteArray := ⟨#[42]⟩

def may (u : ByteArray) : Bool := eqs u star || name u
theorem lt_empty {u : ByteArray} (h : may u = true) : lt ⟨#[]⟩ u = true := by
  unfold lt
  rw [toL, toL]
  cases hu : u.data.toList with
  | cons c r => rfl
  | nil =>
    exfalso
    simp only [may, Bool.or_eq_true, name, Bool.and_eq_true, decide_eq_true_eq] at h
    rcases h with h | h
    · rw [eqs_iff] at h; subst h; cases hu
    · have : u.size = 0 := by
        show u.data.size = 0
        rw [← Array.length_toList, hu]
        rfl
      omega

/-- Is a list in order behind a? -/
def okAcl (a : ByteArray) : List Gr → Bool
  | [] => true
  | g :: r => (may g.u && (lt a g.u && (decide (1 ≤ g.m) && decide (g.m ≤ 7)))) && okAcl g.u r
def chkA (l : List Gr) : Int := if 4 < l.length then 4 else if okAcl ⟨#[]⟩ l = true then 0 else 1
def aheadAt (l : List Gr) : Nat → ByteArray
  | 0 => ⟨#[]⟩
  | i + 1 => (l.getD i zGr).u
def Sorted (l : List Gr) : Prop := l.Pairwise fun a b => lt a.u b.u = true
theorem okL_sorted : ∀ (l : List Gr) (a : ByteArray), okAcl a l = true → Sorted l ∧ ∀ g ∈ l, lt a g.u = true
  | [], a, _ => ⟨List.Pairwise.nil, by simp⟩
  | g :: r, a, h => by
    simp only [okAcl, Bool.and_eq_true] at h
    obtain ⟨⟨_, h2, _⟩, h3⟩ := h
    obtain ⟨s, hs⟩ := okL_sorted r g.u h3
    refine ⟨List.Pairwise.cons hs s, fun x hx => ?_⟩
    rcases List.mem_cons.1 hx with rfl | hx
    · exact h2
    · exact lt_trans h2 (hs x hx)
theorem okL_all : ∀ (l : List Gr) (a : ByteArray), okAcl a l = true → ∀ g ∈ l, may g.u = true ∧ 1 ≤ g.m ∧ g.m ≤ 7
  | [], _, _ => by simp
  | g :: r, a, h => by
    simp only [okAcl, Bool.and_eq_true, decide_eq_true_eq] at h
    obtain ⟨⟨h1, h2, h4, h5⟩, h3⟩ := h
    intro x hx
    rcases List.mem_cons.1 hx with rfl | hx
    · exact ⟨h1, h4, h5⟩
    · exact okL_all r g.u h3 x hx
theorem okL_of : ∀ (l : List Gr) (a : ByteArray), Sorted l → (∀ g ∈ l, lt a g.u = true) → (∀ g ∈ l, may g.u = true ∧ 1 ≤ g.m ∧ g.m ≤ 7) → okAcl a l = true
  | [], _, _, _, _ => rfl
  | g :: r, a, hs, h1, h2 => by
    have hp := List.pairwise_cons.1 hs
    obtain ⟨m1, m2, m3⟩ := h2 g (by simp)
    simp [okAcl, m1, m2, m3, h1 g (by simp), okL_of r g.u hp.2 hp.1 (fun x hx => h2 x (by simp [hx]))]
/-- What may be. -/
structure Good (l : List Gr) : Prop where
  len : l.length ≤ 4
  ord : Sorted l
  all : ∀ g ∈ l, may g.u = true ∧ 1 ≤ g.m ∧ g.m ≤ 7
theorem chk_good {l : List Gr} : chkA l = 0 ↔ Good l := by
  unfold chkA
  constructor
  · intro h
    split at h
    · cases h
    · split at h
      · rename_i h1 h2
        exact ⟨by omega, (okL_sorted _ _ h2).1, okL_all _ _ h2⟩
      · cases h
  · intro h
    rw [if_neg (by have := h.len; omega), if_pos (okL_of _ _ h.ord (fun g hg => lt_empty (h.all g hg).1) h.all)]

/-- A list about a user. -/
structure Parts (l : List Gr) (u : ByteArray) (A M B : List Gr) : Prop where
  eq : l = A ++ (M ++ B)
  ahead : ∀ g ∈ A, lt g.u u = true
  behind : ∀ g ∈ B, lt u g.u = true
  mid : M = [] ∨ ∃ m, M = [⟨u, m⟩]
theorem parts_of : ∀ (l : List Gr) (u : ByteArray), Sorted l → ∃ A M B, Parts l u A M B
  | [], u, _ => ⟨[], [], [], rfl, by simp, by simp, .inl rfl⟩
  | g :: r, u, hs => by
    have hp := List.pairwise_cons.1 hs
    rcases lt_total g.u u with h | h | h
    · obtain ⟨A, M, B, p⟩ := parts_of r u hp.2
      refine ⟨g :: A, M, B, by rw [p.eq]; rfl, fun x hx => ?_, p.behind, p.mid⟩
      rcases List.mem_cons.1 hx with rfl | hx
      · exact h
      · exact p.ahead x hx
    · refine ⟨[], [g], r, rfl, by simp, fun x hx => by rw [← h]; exact hp.1 x hx, .inr ⟨g.m, by rw [← h]⟩⟩
    · refine ⟨[], [], g :: r, rfl, by simp, fun x hx => ?_, .inl rfl⟩
      rcases List.mem_cons.1 hx with rfl | hx
      · exact h
      · exact lt_trans h (hp.1 x hx)
/-- A user's own modes, if any; the modes. -/
def look (l : List Gr) (u : ByteArray) : Option Int := (l.find? fun g => eqs g.u u).map (·.m)
def modesL (l : List Gr) (u : ByteArray) : Int := (look l u).getD ((look l star).getD 0)
theorem look_none {l : List Gr} {u : ByteArray} (h : ∀ g ∈ l, g.u ≠ u) : look l u = none := by
  unfold look
  rw [List.find?_eq_none.2 (fun g hg => by simp [eqs_ne (h g hg)])]
  rfl
theorem look_append (a b : List Gr) (u : ByteArray) : look (a ++ b) u = (look a u).or (look b u) := by
  unfold look
  rw [List.find?_append]
  cases List.find? (fun g => eqs g.u u) a <;> simp
theorem look_one (u : ByteArray) (m : Int) : look [⟨u, m⟩] u = some m := by simp [look, eqs_self]
theorem look_cons (g : Gr) (r : List Gr) (u : ByteArray) : look (g :: r) u = if eqs g.u u = true then some g.m else look r u := by
  unfold look
  rw [List.find?_cons]
  cases eqs g.u u <;> simp
section
variable {l A M B : List Gr} {u : ByteArray}
theorem Parts.noA (p : Parts l u A M B) : look A u = none := look_none fun g hg => lt_ne (p.ahead g hg)
theorem Parts.noB (p : Parts l u A M B) : look B u = none := look_none fun g hg => (lt_ne (p.behind g hg)).symm
theorem Parts.look (p : Parts l u A M B) : look l u = look M u := by
  rw [p.eq, look_append, look_append, p.noA, p.noB]
  simp
theorem Parts.other (p : Parts l u A M B) {x : ByteArray} (hx : x ≠ u) (N : List Gr) (hN : N = [] ∨ ∃ m, N = [⟨u, m⟩]) : Go.Proofs.YtohocomemkckeaaDoor.look (A ++ (N ++ B)) x = Go.Proofs.YtohocomemkckeaaDoor.look l x := by
  have one : ∀ m, Go.Proofs.YtohocomemkckeaaDoor.look [⟨u, m⟩] x = none := fun m => look_none (by simp; exact fun e => hx e.symm)
  rw [p.eq, look_append, look_append, look_append, look_append]
  have h1 : ∀ N : List Gr, (N = [] ∨ ∃ m, N = [⟨u, m⟩]) → Go.Proofs.YtohocomemkckeaaDoor.look N x = none := by
    rintro N (rfl | ⟨m, rfl⟩)
    · rfl
    · exact one m
  rw [h1 N hN, h1 M p.mid]
/-- Another grant there keeps order. -/
theorem Parts.sorted (p : Parts l u A M B) (hs : Sorted l) (N : List Gr) (hN : N = [] ∨ ∃ m, N = [⟨u, m⟩]) : Sorted (A ++ (N ++ B)) := by
  have h := hs
  unfold Sorted at h ⊢
  rw [p.eq] at h
  have hA := (List.pairwise_append.1 h).1
  have hMB := (List.pairwise_append.1 h).2.1
  have hB := (List.pairwise_append.1 hMB).2.1
  refine List.pairwise_append.2 ⟨hA, List.pairwise_append.2 ⟨?_, hB, ?_⟩, ?_⟩
  · rcases hN with rfl | ⟨m, rfl⟩
    · exact List.Pairwise.nil
    · exact List.pairwise_singleton _ _
  · rcases hN with rfl | ⟨m, rfl⟩
    · simp
    · intro a ha b hb
      simp at ha
      subst ha
      exact p.behind b hb
  · intro a ha b hb
    rcases List.mem_append.1 hb with hb | hb
    · rcases hN with rfl | ⟨m, rfl⟩
      · cases hb
      · simp at hb
        subst hb
        exact p.ahead a ha
    · exact lt_trans (p.ahead a ha) (p.behind b hb)
end

/-- What Set answers. -/
def setE (A M B : List Gr) (u : ByteArray) (m : Int) : Int :=
  if (!may u || decide (m < 0) || decide (7 < m)) = true then 1
  else if m = 0 then (if M = [] then 2 else 0)
  else if 4 < A.length + 1 + B.length then 4 else 0
def setL (A M B : List Gr) (u : ByteArray) (m : Int) : List Gr :=
  if setE A M B u m = 0 then A ++ ((if m = 0 then [] else [⟨u, m⟩]) ++ B) else []
theorem Parts.good {l A M B : List Gr} {u : ByteArray} {m : Int} (p : Parts l u A M B) (g : Good l) (h : setE A M B u m = 0) : Good (setL A M B u m) := by
  unfold setL
  rw [if_pos h]
  unfold setE at h
  split at h
  · cases h
  · rename_i h1
    simp only [Bool.or_eq_true, Bool.not_eq_true', decide_eq_true_eq, not_or, Bool.not_eq_false] at h1
    have hN : (if m = 0 then ([] : List Gr) else [⟨u, m⟩]) = [] ∨ ∃ m', (if m = 0 then ([] : List Gr) else [⟨u, m⟩]) = [⟨u, m'⟩] := by
      split
      · exact .inl rfl
      · exact .inr ⟨m, rfl⟩
    refine ⟨?_, p.sorted g.ord _ hN, ?_⟩
    · have hl := g.len
      rw [p.eq] at hl
      simp only [List.length_append] at hl ⊢
      split at h
      · rename_i h0
        rw [if_pos h0]
        simp; omega
      · rename_i h0
        rw [if_neg h0]
        split at h
        · cases h
        · simp; omega
    · intro x hx
      have hall := g.all
      rw [p.eq] at hall
      rcases List.mem_append.1 hx with hx | hx
      · exact hall x (by simp [hx])
      · rcases List.mem_append.1 hx with hx | hx
        · split at hx
          · cases hx
          · rename_i h0
            simp at hx
            subst hx
            exact ⟨h1.1.1, by show 1 ≤ m; omega, by show m ≤ 7; omega⟩
        · exact hall x (by simp [hx])
end Go.Proofs.YtohocomemkckeaaDoor

/-! A NODE, CHECKED, in plain words. Written by mk_nchk.py. -/
namespace Go.Proofs.YtohocomemkckeaaDoor
open Go.RowKit
set_option maxRecDepth 8000
set_option linter.unusedSimpArgs false
set_option linter.unusedVariables false

abbrev Nod.rg (n : Nod) : Rg := ⟨n.r1, n.r2, n.r3, n.gates⟩
def rz (n : Nod) : Bool := n.r1 == 0 && (n.r2 == 0 && (n.r3 == 0 && n.gates == 0))
/-- What is wrong with a directory, with a segment, with a node. -/
def dirC (n : Nod) : Int := if rz n = true ∧ n.words.length = 0 then 0 else 11
def segC (n : Nod) : Int := if eqs n.path slashS = true then 3 else if chkR n.rg ≠ 0 then chkR n.rg else if 16 < n.words.length then 4 else 0
def nodC (n : Nod) : Int := if checkOf n.path ≠ 0 then checkOf n.path else if chkL n.label ≠ 0 then chkL n.label else if chkL n.by_ ≠ 0 then chkL n.by_ else if chkA n.acl ≠ 0 then chkA n.acl else if n.dir = true then dirC n else segC n
end Go.Proofs.YtohocomemkckeaaDoor

/-! TREES, in plain words: nodes by their paths, found, put, dropped, told by directories, checked; what a tree is. -/
namespace Go.Proofs.YtohocomemkckeaaDoor
open Go.RowKit
set_option maxRecDepth 8000
set_option linter.unusedSimpArgs false
set_option linter.unusedVariables false

def findN (l : List Nod) (p : ByteArray) : Option Nod := l.find? fun x => eqs x.path p
def dropN (l : List Nod) (p : ByteArray) : List Nod := l.filter fun x => !eqs x.path p
def putN (l : List Nod) (n : Nod) : List Nod := (dropN l n.path).takeWhile (fun x => lt x.path n.path) ++ n :: (dropN l n.path).dropWhile (fun x => lt x.path n.path)
def isUnder (p : ByteArray) (x : Nod) : Bool := !eqs x.path slashS && eqs (parentOf x.path) p
def underN (l : List Nod) (p : ByteArray) : List ByteArray := (l.filter (isUnder p)).map fun x => lastOf x.path
/-- Of each: what is wrong with it, and that it is behind the one ahead. -/
def behind : Option ByteArray → ByteArray → Bool
  | none, _ => true
  | some q, u => lt q u
def seqC (q : Option ByteArray) : List Nod → Int
  | [] => 0
  | x :: r => if nodC x ≠ 0 then nodC x else if behind q x.path = false then 1 else seqC (some x.path) r
/-- Of each but the root: its parent. -/
def upC (l : List Nod) : List Nod → Int
  | [] => 0
  | x :: r => if eqs x.path slashS = true then upC l r else match findN l (parentOf x.path) with
    | none => 2
    | some p => if p.dir = false then 3 else if (!rov x.label p.label || (!x.dir && !labEq x.label p.label)) = true then 15 else upC l r
def treeC (l : List Nod) : Int := if seqC none l ≠ 0 then seqC none l else match findN l slashS with
  | none => 2
  | some r => if upC l l ≠ 0 then upC l l else if labEq r.label bottomL = true then 0 else 15

/-! Lists that stand by their paths. -/
def Ordered (l : List Nod) : Prop := l.Pairwise fun a b => lt a.path b.path = true
theorem Ordered.uniq {l : List Nod} (h : Ordered l) {x y : Nod} (hx : x ∈ l) (hy : y ∈ l) (e : x.path = y.path) : x = y := by
  induction l with
  | nil => cases hx
  | cons a r ih =>
    obtain ⟨h1, h2⟩ := List.pairwise_cons.1 h
    rcases List.mem_cons.1 hx with hx1 | hx1
    · rcases List.mem_cons.1 hy with hy1 | hy1
      · rw [hx1, hy1]
      · have := lt_ne (h1 y hy1)
        exact absurd (by rw [← hx1]; exact e) this
    · rcases List.mem_cons.1 hy with hy1 | hy1
      · have := lt_ne (h1 x hx1)
        exact absurd (by rw [← hy1]; exact e.symm) this
      · exact ih h2 hx1 hy1
theorem find_some {l : List Nod} {p : ByteArray} {x : Nod} (h : findN l p = some x) : x ∈ l ∧ x.path = p := by
  unfold findN at h
  exact ⟨List.mem_of_find?_eq_some h, eqs_iff.1 (by simpa using List.find?_some h)⟩
theorem find_none {l : List Nod} {p : ByteArray} (h : findN l p = none) : ∀ x ∈ l, x.path ≠ p := fun x hx e => by
  unfold findN at h
  have := List.find?_eq_none.1 h x hx
  rw [e, eqs_self] at this
  exact this rfl
theorem find_mem {l : List Nod} (h : Ordered l) {x : Nod} (hx : x ∈ l) : findN l x.path = some x := by
  cases hf : findN l x.path with
  | none => exact absurd rfl (find_none hf x hx)
  | some y =>
    obtain ⟨hy, e⟩ := find_some hf
    rw [h.uniq hy hx e]
theorem drop_mem {l : List Nod} {p : ByteArray} {x : Nod} : x ∈ dropN l p ↔ x ∈ l ∧ x.path ≠ p := by
  unfold dropN
  rw [List.mem_filter]
  constructor
  · rintro ⟨h1, h2⟩
    refine ⟨h1, fun e => ?_⟩
    rw [e, eqs_self] at h2
    cases h2
  · rintro ⟨h1, h2⟩
    exact ⟨h1, by rw [eqs_ne h2]; rfl⟩
theorem drop_ordered {l : List Nod} (h : Ordered l) (p : ByteArray) : Ordered (dropN l p) := List.Pairwise.filter _ h
theorem take_while {α : Type} {f : α → Bool} : ∀ (l : List α), ∀ x ∈ l.takeWhile f, f x = true
  | [], x, h => by simp at h
  | a :: r, x, h => by
    rw [List.takeWhile_cons] at h
    split at h
    · rcases List.mem_cons.1 h with rfl | h
      · assumption
      · exact take_while r x h
    · cases h
theorem drop_while_mem {α : Type} {f : α → Bool} : ∀ (l : List α), ∀ x ∈ l.dropWhile f, x ∈ l
  | [], x, h => by simp at h
  | a :: r, x, h => by
    rw [List.dropWhile_cons] at h
    split at h
    · exact List.mem_cons_of_mem _ (drop_while_mem r x h)
    · exact h
theorem drop_while_gt {n : Nod} : ∀ (l : List Nod), Ordered l → (∀ x ∈ l, x.path ≠ n.path) → ∀ x ∈ l.dropWhile (fun x => lt x.path n.path), lt n.path x.path = true
  | [], _, _, x, h => by simp at h
  | a :: r, ho, hn, x, h => by
    obtain ⟨h1, h2⟩ := List.pairwise_cons.1 ho
    rw [List.dropWhile_cons] at h
    split at h
    · exact drop_while_gt r h2 (fun y hy => hn y (List.mem_cons_of_mem _ hy)) x h
    · rename_i hlt
      have ha : lt n.path a.path = true := by
        rcases lt_total a.path n.path with h | h | h
        · exact absurd h hlt
        · exact absurd h (hn a List.mem_cons_self)
        · exact h
      rcases List.mem_cons.1 h with rfl | h
      · exact ha
      · exact lt_trans ha (h1 x h)
theorem put_mem {l : List Nod} {n x : Nod} : x ∈ putN l n ↔ x = n ∨ (x ∈ l ∧ x.path ≠ n.path) := by
  unfold putN
  rw [← drop_mem]
  generalize dropN l n.path = m
  rw [List.mem_append, List.mem_cons]
  have e : ∀ y, y ∈ m ↔ y ∈ m.takeWhile (fun x => lt x.path n.path) ∨ y ∈ m.dropWhile (fun x => lt x.path n.path) := fun y => by
    rw [← List.mem_append, List.takeWhile_append_dropWhile]
  rw [e x]
  constructor
  · rintro (h | rfl | h)
    · exact .inr (.inl h)
    · exact .inl rfl
    · exact .inr (.inr h)
  · rintro (rfl | h | h)
    · exact .inr (.inl rfl)
    · exact .inl h
    · exact .inr (.inr h)
theorem put_ordered {l : List Nod} (h : Ordered l) (n : Nod) : Ordered (putN l n) := by
  unfold putN
  have hm : ∀ x ∈ dropN l n.path, x.path ≠ n.path := fun x hx => (drop_mem.1 hx).2
  have ho := drop_ordered h n.path
  generalize dropN l n.path = m at *
  have h1 := take_while (f := fun x : Nod => lt x.path n.path) m
  have h2 := drop_while_gt m ho hm
  refine List.pairwise_append.2 ⟨?_, List.pairwise_cons.2 ⟨h2, ?_⟩, ?_⟩
  · exact List.Pairwise.sublist (List.takeWhile_sublist _) ho
  · exact List.Pairwise.sublist (List.dropWhile_sublist _) ho
  · intro a ha b hb
    have ha' := h1 a ha
    rcases List.mem_cons.1 hb with rfl | hb
    · exact ha'
    · exact lt_trans ha' (h2 b hb)

/-! A tree. -/
structure Tree (l : List Nod) : Prop where
  ok : ∀ x ∈ l, nodC x = 0
  ord : Ordered l
  root : ∃ r ∈ l, r.path = slashS ∧ r.label = bottomL
  up : ∀ x ∈ l, x.path ≠ slashS → ∃ p ∈ l, p.path = parentOf x.path ∧ p.dir = true ∧ rov x.label p.label = true ∧ (x.dir = false → x.label = p.label)
theorem seq_ok : ∀ (l : List Nod) (q : Option ByteArray), (∀ x ∈ l, nodC x = 0) → Ordered l → (∀ q' x, q = some q' → x ∈ l → lt q' x.path = true) → seqC q l = 0
  | [], _, _, _, _ => rfl
  | x :: r, q, h1, h2, h3 => by
    obtain ⟨h4, h5⟩ := List.pairwise_cons.1 h2
    have h0 := h1 x List.mem_cons_self
    rw [seqC, if_neg (by rw [h0]; simp), if_neg, seq_ok r (some x.path) (fun y hy => h1 y (List.mem_cons_of_mem _ hy)) h5 (fun q' y e hy => by obtain rfl := Option.some.inj e; exact h4 y hy)]
    cases q with
    | none => simp [behind]
    | some q => rw [behind, h3 q x rfl List.mem_cons_self]; simp
theorem up_ok {l : List Nod} (h : Tree l) : ∀ (m : List Nod), (∀ x ∈ m, x ∈ l) → upC l m = 0
  | [], _ => rfl
  | x :: r, hm => by
    have ih := up_ok h r fun y hy => hm y (List.mem_cons_of_mem _ hy)
    rw [upC]
    by_cases hx : eqs x.path slashS = true
    · rw [if_pos hx]
      exact ih
    · rw [if_neg hx]
      obtain ⟨p, hp, e, hd, hov, hseg⟩ := h.up x (hm x List.mem_cons_self) (fun q => hx (eqs_iff.2 q))
      rw [← e, find_mem h.ord hp]
      simp only [hd, hov]
      rw [if_neg (by simp), if_neg, ih]
      cases hxd : x.dir
      · rw [(labEq_iff _ _).2 (hseg hxd)]
        simp
      · simp
theorem Tree.check {l : List Nod} (h : Tree l) : treeC l = 0 := by
  have h1 := seq_ok l none h.ok h.ord (fun q' x e => by cases e)
  obtain ⟨r, hr, e, hl⟩ := h.root
  have h2 := find_mem h.ord hr
  rw [e] at h2
  unfold treeC
  rw [if_neg (by rw [h1]; simp), h2]
  simp only
  rw [up_ok h l (fun _ hx => hx), if_neg (by simp), hl, if_pos ((labEq_iff _ _).2 rfl)]
theorem Tree.put {l : List Nod} (h : Tree l) {n d : Nod} (hn : nodC n = 0) (hs : n.path ≠ slashS) (hnew : ∀ x ∈ l, x.path ≠ n.path) (hd : d ∈ l) (hp : d.path = parentOf n.path) (hdd : d.dir = true) (hov : rov n.label d.label = true) (hseg : n.dir = false → n.label = d.label) : Tree (putN l n) := by
  refine ⟨fun x hx => ?_, put_ordered h.ord n, ?_, fun x hx hxs => ?_⟩
  · rcases put_mem.1 hx with rfl | ⟨hx, _⟩
    · exact hn
    · exact h.ok x hx
  · obtain ⟨r, hr, e, hl⟩ := h.root
    exact ⟨r, put_mem.2 (.inr ⟨hr, fun q => hs (by rw [← q, e])⟩), e, hl⟩
  · rcases put_mem.1 hx with rfl | ⟨hx, _⟩
    · exact ⟨d, put_mem.2 (.inr ⟨hd, hnew d hd⟩), hp, hdd, hov, hseg⟩
    · obtain ⟨p, hp', e, a, b, c⟩ := h.up x hx hxs
      exact ⟨p, put_mem.2 (.inr ⟨hp', hnew p hp'⟩), e, a, b, c⟩
end Go.Proofs.YtohocomemkckeaaDoor

/-! COUNTS OF LABELS, in plain words: how many nodes have a By, how often a label stands in a row, a row in order. -/
namespace Go.Proofs.YtohocomemkckeaaDoor
open Go.RowKit
set_option maxRecDepth 8000
set_option linter.unusedSimpArgs false
set_option linter.unusedVariables false

def cntBy (L : List Nod) (b : Lab) : Nat := L.countP fun x => labEq x.by_ b
def cntL (l : List Lab) (x : Lab) : Nat := l.countP fun y => labEq y x
def addL (l : List Lab) (x : Lab) : List Lab := l.takeWhile (fun y => !lessL x y) ++ x :: l.dropWhile (fun y => !lessL x y)
theorem labEq_self (x : Lab) : labEq x x = true := (labEq_iff x x).2 rfl
theorem labEq_ne {x y : Lab} (h : x ≠ y) : labEq x y = false := by
  cases hq : labEq x y
  · rfl
  · exact absurd ((labEq_iff x y).1 hq) h
theorem countP_take {α : Type} (f : α → Bool) {l : List α} {i : Nat} {x : α} (h : l[i]? = some x) : (l.take (i + 1)).countP f = (l.take i).countP f + if f x = true then 1 else 0 := by
  rw [List.take_add_one, h, List.countP_append]
  congr 1
  simp only [Option.toList, List.countP_cons, List.countP_nil]
  split <;> simp
theorem countP_le {α : Type} (f : α → Bool) (l : List α) (i : Nat) : (l.take i).countP f ≤ i := by
  refine Nat.le_trans List.countP_le_length ?_
  rw [List.length_take]
  omega
theorem less_irr (a : Lab) : lessL a a = false := by
  unfold lessL
  simp
theorem less_tot (a b : Lab) : lessL a b = true ∨ a = b ∨ lessL b a = true := by
  obtain ⟨a1, a2, a3, a4⟩ := a
  obtain ⟨b1, b2, b3, b4⟩ := b
  by_cases h1 : a1 = b1
  · subst h1
    by_cases h2 : a2 = b2
    · subst h2
      by_cases h3 : a3 = b3
      · subst h3
        by_cases h4 : a4 = b4
        · subst h4
          exact .inr (.inl rfl)
        · simp [lessL]
          omega
      · simp [lessL, h3, Ne.symm h3]
        omega
    · simp [lessL, h2, Ne.symm h2]
      omega
  · simp [lessL, h1, Ne.symm h1]
    omega
theorem less_cases {a b : Lab} (h : lessL a b = true) : a.s < b.s ∨ (a.s = b.s ∧ (a.c < b.c ∨ (a.c = b.c ∧ (a.i < b.i ∨ (a.i = b.i ∧ a.k < b.k))))) := by
  unfold lessL at h
  by_cases h1 : a.s = b.s
  · rw [if_neg (by simp [h1])] at h
    by_cases h2 : a.c = b.c
    · rw [if_neg (by simp [h2])] at h
      by_cases h3 : a.i = b.i
      · rw [if_neg (by simp [h3])] at h
        exact .inr ⟨h1, .inr ⟨h2, .inr ⟨h3, of_decide_eq_true h⟩⟩⟩
      · rw [if_pos (by simp [h3])] at h
        exact .inr ⟨h1, .inr ⟨h2, .inl (of_decide_eq_true h)⟩⟩
    · rw [if_pos (by simp [h2])] at h
      exact .inr ⟨h1, .inl (of_decide_eq_true h)⟩
  · rw [if_pos (by simp [h1])] at h
    exact .inl (of_decide_eq_true h)
theorem less_of {a b : Lab} (h : a.s < b.s ∨ (a.s = b.s ∧ (a.c < b.c ∨ (a.c = b.c ∧ (a.i < b.i ∨ (a.i = b.i ∧ a.k < b.k)))))) : lessL a b = true := by
  unfold lessL
  by_cases h1 : a.s = b.s
  · rw [if_neg (by simp [h1])]
    by_cases h2 : a.c = b.c
    · rw [if_neg (by simp [h2])]
      by_cases h3 : a.i = b.i
      · rw [if_neg (by simp [h3])]
        exact decide_eq_true (by omega)
      · rw [if_pos (by simp [h3])]
        exact decide_eq_true (by omega)
    · rw [if_pos (by simp [h2])]
      exact decide_eq_true (by omega)
  · rw [if_pos (by simp [h1])]
    exact decide_eq_true (by omega)
theorem lessL_trans {a b c : Lab} (h : lessL a b = true) (k : lessL b c = true) : lessL a c = true := by
  have h1 := less_cases h
  have h2 := less_cases k
  exact less_of (by omega)
theorem less_asym {a b : Lab} (h : lessL a b = true) : lessL b a = false := by
  cases hq : lessL b a
  · rfl
  · have := lessL_trans h hq
    rw [less_irr] at this
    cases this
theorem less_ne {a b : Lab} (h : lessL a b = true) : a ≠ b := fun e => by
  subst e
  rw [less_irr] at h
  cases h
/-- A row in order: none is less than one ahead of it. -/
def SortL (l : List Lab) : Prop := l.Pairwise fun a b => lessL b a = false
theorem notless_trans {a b c : Lab} (h : lessL b a = false) (k : lessL c b = false) : lessL c a = false := by
  cases hq : lessL c a
  · rfl
  · rcases less_tot a b with h1 | h1 | h1
    · have := lessL_trans hq h1
      rw [k] at this
      cases this
    · subst h1
      rw [k] at hq
      cases hq
    · rw [h] at h1
      cases h1
theorem dropL_gt {x : Lab} : ∀ (l : List Lab), SortL l → ∀ y ∈ l.dropWhile (fun y => !lessL x y), lessL x y = true
  | [], _, y, h => by simp at h
  | a :: r, hs, y, h => by
    obtain ⟨h1, h2⟩ := List.pairwise_cons.1 hs
    rw [List.dropWhile_cons] at h
    split at h
    · exact dropL_gt r h2 y h
    · rename_i hq
      have hxa : lessL x a = true := by simpa using hq
      rcases List.mem_cons.1 h with rfl | h
      · exact hxa
      · have h3 := h1 y h
        rcases less_tot a y with h4 | h4 | h4
        · exact lessL_trans hxa h4
        · rw [← h4]; exact hxa
        · rw [h3] at h4; cases h4
theorem add_sorted {l : List Lab} (h : SortL l) (x : Lab) : SortL (addL l x) := by
  unfold addL
  have h1 := take_while (f := fun y : Lab => !lessL x y) l
  have h2 := dropL_gt (x := x) l h
  refine List.pairwise_append.2 ⟨List.Pairwise.sublist (List.takeWhile_sublist _) h, List.pairwise_cons.2 ⟨fun y hy => less_asym (h2 y hy), List.Pairwise.sublist (List.dropWhile_sublist _) h⟩, fun a ha b hb => ?_⟩
  have ha' : lessL x a = false := by simpa using h1 a ha
  rcases List.mem_cons.1 hb with rfl | hb
  · exact ha'
  · exact notless_trans ha' (less_asym (h2 b hb))
theorem add_cnt (l : List Lab) (x y : Lab) : cntL (addL l x) y = cntL l y + if labEq x y = true then 1 else 0 := by
  unfold cntL addL
  rw [List.countP_append, List.countP_cons, ← Nat.add_assoc, ← List.countP_append, List.takeWhile_append_dropWhile]
theorem add_len (l : List Lab) (x : Lab) : (addL l x).length = l.length + 1 := by
  unfold addL
  rw [List.length_append, List.length_cons, ← Nat.add_assoc, ← List.length_append, List.takeWhile_append_dropWhile]
theorem cnt_pos {l : List Lab} {x : Lab} : 0 < cntL l x ↔ x ∈ l := by
  unfold cntL
  rw [List.countP_pos_iff]
  constructor
  · rintro ⟨y, hy, e⟩
    rw [(labEq_iff _ _).1 e] at hy
    exact hy
  · intro h
    exact ⟨x, h, labEq_self x⟩
theorem cnt_cons (l : List Lab) (x y : Lab) : cntL (x :: l) y = cntL l y + if labEq x y = true then 1 else 0 := by
  unfold cntL
  rw [List.countP_cons]
/-- Rows in order with the same counts are one. -/
theorem sort_uniq : ∀ (a b : List Lab), SortL a → SortL b → (∀ x, cntL a x = cntL b x) → a = b
  | [], b, _, _, h => by
    cases b with
    | nil => rfl
    | cons y r =>
      have h1 := h y
      rw [cnt_cons, labEq_self, if_pos rfl] at h1
      have : cntL ([] : List Lab) y = 0 := rfl
      omega
  | x :: r, b, ha, hb, h => by
    cases b with
    | nil =>
      have h1 := h x
      rw [cnt_cons, labEq_self, if_pos rfl] at h1
      have : cntL ([] : List Lab) x = 0 := rfl
      omega
    | cons y q =>
      obtain ⟨a1, a2⟩ := List.pairwise_cons.1 ha
      obtain ⟨b1, b2⟩ := List.pairwise_cons.1 hb
      have hxy : x = y := by
        have hx : x ∈ y :: q := cnt_pos.1 (by rw [← h x, cnt_cons, labEq_self, if_pos rfl]; omega)
        have hy : y ∈ x :: r := cnt_pos.1 (by rw [h y, cnt_cons, labEq_self, if_pos rfl]; omega)
        rcases List.mem_cons.1 hx with hx | hx
        · exact hx
        · rcases List.mem_cons.1 hy with hy | hy
          · exact hy.symm
          · have h1 := a1 y hy
            have h2 := b1 x hx
            rcases less_tot x y with h3 | h3 | h3
            · rw [h2] at h3; cases h3
            · exact h3
            · rw [h1] at h3; cases h3
      subst hxy
      rw [sort_uniq r q a2 b2 fun z => by
        have h1 := h z
        rw [cnt_cons, cnt_cons] at h1
        omega]
end Go.Proofs.YtohocomemkckeaaDoor

/-! THE LAWS' OWN PATHS: Of, within. -/
namespace Go.Proofs.YtohocomemkckeaaDoor
open Go.RowKit
set_option maxRecDepth 8000
set_option linter.unusedSimpArgs false
set_option linter.unusedVariables false
/-- A text of one byte. -/
def chr (k : Nat) : ByteArray := ⟨#[UInt8.ofNat k]⟩
theorem conv_chr (w : World) (k : Nat) (hk : k < 256) : (convert 44 9 (.slice (some ⟨w.heap.size, 0, none⟩) 1 1)).run Tryd.prog (w.alloc (.cells #[.int .u8 (k : Int)] 5)) = .ok (.string (chr k)) (w.alloc (.cells #[.int .u8 (k : Int)] 5)) := by
  refine run_convert_bytes_back _ _ _ 5 ⟨w.heap.size, 0, none⟩ 1 [UInt8.ofNat k] Tryd.underlying44 Tryd.underlying5 Tryd.underlying9 fun j hj => ?_
  obtain rfl : j = 0 := by simp at hj; omega
  rw [show (⟨w.heap.size, 0, none⟩ : Addr).add 0 = ⟨w.heap.size, 0, none⟩ by simp [Addr.add], World.cell?_alloc_at _ _ _ _ rfl]
  simp
  omega

/-- The name of a number. -/
def letterOf (x : Int) : Nat := 97 + (x.tdiv 3 % 5).toNat
def nameOf (x : Int) : ByteArray := ⟨(List.replicate ((x % 3).toNat + 1) (UInt8.ofNat (letterOf x))).toArray⟩
def namesOf (l : List Int) : List ByteArray := (l.take 6).map nameOf
theorem letter_lo (x : Int) : 97 ≤ letterOf x ∧ letterOf x ≤ 101 := by unfold letterOf; omega
theorem nameOf_name (x : Int) : name (nameOf x) = true := by
  obtain ⟨h1, h2⟩ := letter_lo x
  have hs : (nameOf x).size = (x % 3).toNat + 1 := by simp [nameOf, ByteArray.size]
  have ha : (nameOf x).data.toList.all okB = true := by
    simp only [nameOf, List.all_eq_true]
    intro c hc
    have := List.eq_of_mem_replicate hc
    subst this
    have e : (UInt8.ofNat (letterOf x)).toNat = letterOf x := by simp; omega
    simp [okB, e]
    omega
  rw [name, hs, ha]
  simp
  omega
theorem namesOf_names (l : List Int) : Names (namesOf l) := by
  refine ⟨by simp [namesOf]; omega, fun n hn => ?_⟩
  obtain ⟨x, _, rfl⟩ := List.mem_map.1 hn
  exact nameOf_name x

end Go.Proofs.YtohocomemkckeaaDoor

/-! TREES THAT ARE GROWN, in plain words: the first nodes of a config, lists of grants such as may be, nodes put upon them. -/
namespace Go.Proofs.YtohocomemkckeaaDoor
open Go.RowKit
set_option maxRecDepth 8000
set_option linter.unusedSimpArgs false
set_option linter.unusedVariables false

/-! What may be. -/
theorem chkL_zero {l : Lab} : chkL l = 0 ↔ GL l := by
  unfold chkL okL
  constructor
  · intro h
    split at h
    · rename_i h1
      simp only [inB, Bool.and_eq_true, decide_eq_true_eq] at h1
      constructor <;> omega
    · cases h
  · intro h
    obtain ⟨a, b, c, d, e, f, g, i⟩ := h
    rw [if_pos]
    simp only [inB, Bool.and_eq_true, decide_eq_true_eq]
    omega
theorem nodC_zero {x : Nod} : nodC x = 0 ↔ checkOf x.path = 0 ∧ GL x.label ∧ GL x.by_ ∧ chkA x.acl = 0 ∧ (x.dir = true → rz x = true ∧ x.words.length = 0) ∧ (x.dir = false → x.path ≠ slashS ∧ OkR x.rg ∧ x.words.length ≤ 16) := by
  rw [← chkL_zero, ← chkL_zero]
  have hr : chkR x.rg = 0 ↔ OkR x.rg := by
    unfold chkR
    by_cases q : OkR x.rg
    · rw [if_pos q]; exact ⟨fun _ => q, fun _ => rfl⟩
    · rw [if_neg q]; exact ⟨fun e => absurd e (by decide), fun e => absurd e q⟩
  unfold nodC
  by_cases h1 : checkOf x.path = 0
  · by_cases h2 : chkL x.label = 0
    · by_cases h3 : chkL x.by_ = 0
      · by_cases h4 : chkA x.acl = 0
        · rw [if_neg (by simp [h1]), if_neg (by simp [h2]), if_neg (by simp [h3]), if_neg (by simp [h4])]
          simp only [h1, h2, h3, h4, true_and]
          cases hd : x.dir
          · simp only [Bool.false_eq_true, if_false, false_implies, true_and, true_implies]
            unfold segC
            rw [← hr]
            by_cases h5 : eqs x.path slashS = true
            · rw [if_pos h5]
              exact ⟨fun h => (by cases h), fun h => absurd (eqs_iff.1 h5) h.1⟩
            · rw [if_neg h5]
              have h5' : x.path ≠ slashS := fun e => h5 (eqs_iff.2 e)
              by_cases h6 : chkR x.rg = 0
              · rw [if_neg (by simp [h6])]
                by_cases h7 : 16 < x.words.length
                · rw [if_pos h7]
                  exact ⟨fun h => (by cases h), fun h => by omega⟩
                · rw [if_neg h7]
                  exact ⟨fun _ => ⟨h5', h6, by omega⟩, fun _ => rfl⟩
              · rw [if_pos h6]
                exact ⟨fun h => absurd h h6, fun h => h.2.1⟩
          · simp only [if_true, true_implies, Bool.true_eq_false, false_implies, and_true]
            unfold dirC
            by_cases h5 : rz x = true ∧ x.words.length = 0
            · rw [if_pos h5]
              exact ⟨fun _ => h5, fun _ => rfl⟩
            · rw [if_neg h5]
              exact ⟨fun h => (by cases h), fun h => absurd h h5⟩
        · rw [if_neg (by simp [h1]), if_neg (by simp [h2]), if_neg (by simp [h3]), if_pos h4]
          exact ⟨fun h => absurd h h4, fun h => h.2.2.2.1⟩
      · rw [if_neg (by simp [h1]), if_neg (by simp [h2]), if_pos h3]
        exact ⟨fun h => absurd h h3, fun h => h.2.2.1⟩
    · rw [if_neg (by simp [h1]), if_pos h2]
      exact ⟨fun h => absurd h h2, fun h => h.2.1⟩
  · rw [if_pos h1]
    exact ⟨fun h => absurd h h1, fun h => h.1⟩

/-! The first nodes. -/
def starS : ByteArray := ⟨#[42]⟩
def allG : List Gr := [⟨starS, 7⟩]
def nmK (k : Nat) : ByteArray := ⟨#[108, UInt8.ofNat (48 + k)]⟩
def rootN : Nod := ⟨slashS, true, bottomL, allG, 0, 0, 0, 0, [], bottomL⟩
def dirN (k : Nat) (t : Lab) : Nod := ⟨⟨#[47, 108, UInt8.ofNat (48 + k)]⟩, true, t, allG, 0, 0, 0, 0, [], bottomL⟩
def distTo (ts : List Lab) : Nat → List Lab
  | 0 => []
  | i + 1 => if (ts.take i).any (fun t => labEq t (ts.getD i bottomL)) = true then distTo ts i else distTo ts i ++ [ts.getD i bottomL]
def firstTo (ts : List Lab) (i : Nat) : List Nod := rootN :: (distTo ts i).mapIdx dirN
def firstN (ts : List Lab) : List Nod := firstTo ts ts.length
theorem dist_len (ts : List Lab) : ∀ i, (distTo ts i).length ≤ i
  | 0 => Nat.le_refl _
  | i + 1 => by
    have := dist_len ts i
    rw [distTo]
    split
    · omega
    · simp; omega
theorem first_succ (ts : List Lab) (i : Nat) : firstTo ts (i + 1) = if (ts.take i).any (fun t => labEq t (ts.getD i bottomL)) = true then firstTo ts i else firstTo ts i ++ [dirN (distTo ts i).length (ts.getD i bottomL)] := by
  unfold firstTo
  rw [distTo]
  split
  · rfl
  · rw [List.mapIdx_concat]
    rfl
theorem dist_mem (ts : List Lab) : ∀ i, i ≤ ts.length → ∀ t, t ∈ distTo ts i ↔ t ∈ ts.take i
  | 0, _, t => by simp [distTo]
  | i + 1, hi, t => by
    have ih := dist_mem ts i (by omega) t
    have hg : ts.getD i bottomL = ts[i] := by rw [List.getD_eq_getElem?_getD, List.getElem?_eq_getElem (by omega)]; rfl
    rw [distTo, hg, List.take_add_one, List.getElem?_eq_getElem (by omega)]
    simp only [Option.toList, List.mem_append, List.mem_singleton]
    split
    · rename_i h
      rw [ih]
      constructor
      · exact fun q => .inl q
      · rintro (q | rfl)
        · exact q
        · obtain ⟨u, hu, he⟩ := List.any_eq_true.1 h
          rw [← (labEq_iff _ _).1 he]
          exact hu
    · rw [List.mem_append, ih, List.mem_singleton]
theorem dist_nodup (ts : List Lab) : ∀ i, i ≤ ts.length → (distTo ts i).Nodup
  | 0, _ => List.nodup_nil
  | i + 1, hi => by
    have ih := dist_nodup ts i (by omega)
    rw [distTo]
    split
    · exact ih
    · rename_i h
      refine List.nodup_append.2 ⟨ih, by simp, fun a ha b hb => ?_⟩
      rw [List.mem_singleton] at hb
      subst hb
      rintro rfl
      apply h
      rw [dist_mem ts i (by omega)] at ha
      exact List.any_eq_true.2 ⟨_, ha, (labEq_iff _ _).2 rfl⟩
theorem dir_path (k : Nat) (t : Lab) : (dirN k t).path = pathB [nmK k] := by
  apply bytes_inj
  rw [pathB_bytes (by simp), body_one]
  rfl
theorem nmK_name {k : Nat} (h : k < 10) : name (nmK k) = true := by
  have : ∀ k : Fin 10, name (nmK k) = true := by decide +kernel
  exact this ⟨k, h⟩
theorem nmK_names {k : Nat} (h : k < 10) : Names [nmK k] := ⟨by simp, fun n hn => by rw [List.mem_singleton] at hn; subst hn; exact nmK_name h⟩
theorem dir_lt {j k : Nat} (h : j < k) (hk : k < 10) (t u : Lab) : lt (dirN j t).path (dirN k u).path = true := by
  have : ∀ k : Fin 10, ∀ j : Fin 10, j.val < k.val → lt ⟨#[47, 108, UInt8.ofNat (48 + j.val)]⟩ ⟨#[47, 108, UInt8.ofNat (48 + k.val)]⟩ = true := by decide +kernel
  exact this ⟨k, hk⟩ ⟨j, by omega⟩ h
theorem root_lt {k : Nat} (hk : k < 10) (t : Lab) : lt rootN.path (dirN k t).path = true := by
  have : ∀ k : Fin 10, lt slashS ⟨#[47, 108, UInt8.ofNat (48 + k.val)]⟩ = true := by decide +kernel
  exact this ⟨k, hk⟩
theorem all_ok : chkA allG = 0 := by decide +kernel
theorem rov_bot {l : Lab} (h : GL l) : rov l bottomL = true := by
  obtain ⟨n, rfl, hn⟩ := h.nl
  rw [← bot_lab, rov_ov hn bot_ok, ov_iff hn bot_ok]
  exact over_bot hn
theorem slash_chk : checkOf slashS = 0 := by rw [← pathB_nil]; exact check_names ⟨by simp, fun n hn => by cases hn⟩
theorem root_ok : nodC rootN = 0 := nodC_zero.2 ⟨slash_chk, bottom_GL, bottom_GL, all_ok, fun _ => ⟨by decide, rfl⟩, fun h => by cases h⟩
theorem dir_ok {k : Nat} (hk : k < 10) {t : Lab} (ht : GL t) : nodC (dirN k t) = 0 := nodC_zero.2 ⟨by rw [dir_path]; exact check_names (nmK_names hk), ht, bottom_GL, all_ok, fun _ => ⟨rfl, rfl⟩, fun h => by cases h⟩
theorem first_mem {ts : List Lab} {i : Nat} {x : Nod} (h : x ∈ firstTo ts i) : x = rootN ∨ ∃ k t, k < (distTo ts i).length ∧ (distTo ts i)[k]? = some t ∧ x = dirN k t := by
  unfold firstTo at h
  rcases List.mem_cons.1 h with h | h
  · exact .inl h
  · obtain ⟨k, hk⟩ := List.mem_iff_getElem?.1 h
    rw [List.getElem?_mapIdx] at hk
    cases hd : (distTo ts i)[k]? with
    | none => rw [hd] at hk; cases hk
    | some t =>
      rw [hd] at hk
      exact .inr ⟨k, t, (List.getElem?_eq_some_iff.1 hd).1, hd, (Option.some.inj hk).symm⟩
theorem first_tree {ts : List Lab} (hg : ∀ t ∈ ts, GL t) (hn : ts.length < 10) : Tree (firstN ts) := by
  have hl := dist_len ts ts.length
  have hgl : ∀ k t, (distTo ts ts.length)[k]? = some t → GL t := fun k t h => hg t (by
    have := (dist_mem ts ts.length (Nat.le_refl _) t).1 (List.mem_of_getElem? h)
    rwa [List.take_length] at this)
  refine ⟨fun x hx => ?_, ?_, ⟨rootN, List.mem_cons_self, rfl, rfl⟩, fun x hx hs => ?_⟩
  · rcases first_mem hx with rfl | ⟨k, t, hk, ht, rfl⟩
    · exact root_ok
    · exact dir_ok (by omega) (hgl k t ht)
  · refine List.pairwise_cons.2 ⟨fun y hy => ?_, ?_⟩
    · rcases first_mem (ts := ts) (i := ts.length) (List.mem_cons_of_mem _ hy) with rfl | ⟨k, t, hk, ht, rfl⟩
      · exfalso
        obtain ⟨k, hk⟩ := List.mem_iff_getElem?.1 hy
        rw [List.getElem?_mapIdx] at hk
        cases hd : (distTo ts ts.length)[k]? with
        | none => rw [hd] at hk; cases hk
        | some t =>
          rw [hd] at hk
          have he := Option.some.inj hk
          have h2 := root_lt (k := k) (by have := (List.getElem?_eq_some_iff.1 hd).1; omega) t
          rw [he, lt_irrefl] at h2
          cases h2
      · exact root_lt (by omega) t
    · rw [List.pairwise_iff_getElem]
      intro i j hi hj hij
      rw [List.length_mapIdx] at hi hj
      rw [List.getElem_mapIdx, List.getElem_mapIdx]
      exact dir_lt hij (by omega) _ _
  · rcases first_mem hx with rfl | ⟨k, t, hk, ht, rfl⟩
    · exact absurd rfl hs
    · refine ⟨rootN, List.mem_cons_self, ?_, rfl, rov_bot (hgl k t ht), fun h => by cases h⟩
      have := nmK_names (k := k) (by omega)
      rw [dir_path, show [nmK k] = [] ++ [nmK k] from rfl, parent_path (this.flat _ List.mem_cons_self).1 (this.flat _ List.mem_cons_self).2, pathB_nil]
      rfl
end Go.Proofs.YtohocomemkckeaaDoor

/-! LOGS, in plain words (chapter 14): entries by label, in order; what is added, seen, chained. -/
namespace Go.Proofs.YtohocomemkckeaaDoor
open Go.RowKit
set_option maxRecDepth 8000
set_option linter.unusedSimpArgs false
set_option linter.unusedVariables false

/-- An entry's cells. -/
def ecs (e : Ent) : List Value := [.int .i64 e.seq, .int .i64 e.label.s, .int .i64 e.label.c, .int .i64 e.label.i, .int .i64 e.label.k, .string e.user, .int .i64 e.verb, .string e.object, .int .i64 e.verdict]
theorem ecs_len (e : Ent) : (ecs e).length = 9 := rfl
def audAll (l : List Ent) (t : Lab) : List Ent := l.filter fun e => labEq e.label t
def audSeen (l : List Ent) (b : Lab) : List Ent := l.filter fun e => rov b e.label
def audFull (l : List Ent) (t : Lab) : Bool := decide (40 ≤ (audAll l t).length)
def audMay (e : Ent) : Int := if chkL e.label ≠ 0 ∨ e.verb < 1 ∨ 14 < e.verb ∨ 78 < e.user.size ∨ 78 < e.object.size ∨ e.verdict < 0 ∨ 255 < e.verdict then 1 else 0
def audIns (l : List Ent) (e : Ent) : List Ent := l.takeWhile (fun y => !lessL e.label y.label) ++ e :: l.dropWhile (fun y => !lessL e.label y.label)
def audNext (l : List Ent) (e : Ent) : Ent := { e with seq := (((audAll l e.label).length + 1 : Nat) : Int) }
def audErr (l : List Ent) (e : Ent) : Int := if audMay e ≠ 0 then 1 else if audFull l e.label = true then 18 else 0
def audAdd (l : List Ent) (e : Ent) : List Ent := if audErr l e = 0 then audIns l (audNext l e) else l
def audChain (l : List Ent) (t : Lab) : Nat := (audAll l t).foldl (fun h e => chain h (encE e)) (ofN 0 [])
def SortE (l : List Ent) : Prop := l.Pairwise fun a b => lessL b.label a.label = false
/-- A log's entries such as may be. -/
structure AudSt (l : List Ent) : Prop where
  sort : SortE l
  ok : ∀ e ∈ l, audMay e = 0
  cnt : ∀ t, (audAll l t).length ≤ 40
theorem aud_nil : AudSt [] := ⟨List.Pairwise.nil, (fun e h => by cases h), fun t => by simp [audAll]⟩
theorem may_zero {e : Ent} : audMay e = 0 ↔ chkL e.label = 0 ∧ 1 ≤ e.verb ∧ e.verb ≤ 14 ∧ e.user.size ≤ 78 ∧ e.object.size ≤ 78 ∧ 0 ≤ e.verdict ∧ e.verdict ≤ 255 := by
  unfold audMay
  split
  · rename_i h
    constructor
    · intro q; cases q
    · intro q; omega
  · rename_i h
    constructor
    · intro _; omega
    · intro _; rfl
theorem err_zero {l : List Ent} {e : Ent} : audErr l e = 0 ↔ audMay e = 0 ∧ audFull l e.label = false := by
  unfold audErr
  by_cases h : audMay e = 0
  · rw [if_neg (by simp [h])]
    cases hf : audFull l e.label <;> simp [h]
  · rw [if_pos h]
    simp [h]
theorem dropE_gt {x : Lab} : ∀ (l : List Ent), SortE l → ∀ y ∈ l.dropWhile (fun y => !lessL x y.label), lessL x y.label = true
  | [], _, y, h => by simp at h
  | a :: r, hs, y, h => by
    obtain ⟨h1, h2⟩ := List.pairwise_cons.1 hs
    rw [List.dropWhile_cons] at h
    split at h
    · exact dropE_gt r h2 y h
    · rename_i hq
      have hxa : lessL x a.label = true := by simpa using hq
      rcases List.mem_cons.1 h with rfl | h
      · exact hxa
      · have h3 := h1 y h
        rcases less_tot a.label y.label with h4 | h4 | h4
        · exact lessL_trans hxa h4
        · rw [← h4]; exact hxa
        · rw [h3] at h4; cases h4
theorem ins_sort {l : List Ent} (h : SortE l) (x : Ent) : SortE (audIns l x) := by
  unfold audIns
  have h1 := take_while (f := fun y : Ent => !lessL x.label y.label) l
  have h2 := dropE_gt (x := x.label) l h
  refine List.pairwise_append.2 ⟨List.Pairwise.sublist (List.takeWhile_sublist _) h, List.pairwise_cons.2 ⟨fun y hy => less_asym (h2 y hy), List.Pairwise.sublist (List.dropWhile_sublist _) h⟩, fun a ha b hb => ?_⟩
  have ha' : lessL x.label a.label = false := by simpa using h1 a ha
  rcases List.mem_cons.1 hb with rfl | hb
  · exact ha'
  · exact notless_trans ha' (less_asym (h2 b hb))
theorem ins_len (l : List Ent) (x : Ent) : (audIns l x).length = l.length + 1 := by
  unfold audIns
  rw [List.length_append, List.length_cons, ← Nat.add_assoc, ← List.length_append, List.takeWhile_append_dropWhile]
theorem ins_mem {l : List Ent} {x y : Ent} (h : y ∈ audIns l x) : y = x ∨ y ∈ l := by
  unfold audIns at h
  rcases List.mem_append.1 h with h | h
  · exact .inr ((List.takeWhile_sublist _).subset h)
  · rcases List.mem_cons.1 h with h | h
    · exact .inl h
    · exact .inr ((List.dropWhile_sublist _).subset h)
/-- What was told, and one more behind it, if it is of that label. -/
theorem ins_all {l : List Ent} (h : SortE l) (x : Ent) (t : Lab) : audAll (audIns l x) t = audAll l t ++ if labEq x.label t = true then [x] else [] := by
  unfold audAll audIns
  have h2 := dropE_gt (x := x.label) l h
  have e : l.filter (fun e => labEq e.label t) = (l.takeWhile (fun y => !lessL x.label y.label)).filter (fun e => labEq e.label t) ++ (l.dropWhile (fun y => !lessL x.label y.label)).filter (fun e => labEq e.label t) := by
    rw [← List.filter_append, List.takeWhile_append_dropWhile]
  rw [List.filter_append, List.filter_cons, e]
  cases hq : labEq x.label t
  · simp
  · have hx := (labEq_iff _ _).1 hq
    have hz : (l.dropWhile (fun y => !lessL x.label y.label)).filter (fun e => labEq e.label t) = [] := by
      refine List.filter_eq_nil_iff.2 fun y hy q => ?_
      have := h2 y hy
      rw [(labEq_iff _ _).1 q, hx, less_irr] at this
      cases this
    rw [hz]
    simp
theorem ins_seen {l : List Ent} (x : Ent) (b : Lab) : (audSeen l b).Sublist (audSeen (audIns l x) b) := by
  unfold audSeen
  refine List.Sublist.filter _ ?_
  unfold audIns
  have := (List.Sublist.refl (l.takeWhile (fun y => !lessL x.label y.label))).append (List.sublist_cons_self x (l.dropWhile (fun y => !lessL x.label y.label)))
  rwa [List.takeWhile_append_dropWhile] at this
theorem next_may (l : List Ent) (e : Ent) : audMay (audNext l e) = audMay e := rfl
theorem next_label (l : List Ent) (e : Ent) : (audNext l e).label = e.label := rfl
theorem add_st {l : List Ent} (h : AudSt l) (e : Ent) : AudSt (audAdd l e) := by
  unfold audAdd
  by_cases hz : audErr l e = 0
  · rw [if_pos hz]
    obtain ⟨h1, h2⟩ := err_zero.1 hz
    refine ⟨ins_sort h.sort _, fun y hy => ?_, fun t => ?_⟩
    · rcases ins_mem hy with rfl | hy
      · exact h1
      · exact h.ok y hy
    · rw [ins_all h.sort, next_label]
      have hc := h.cnt t
      cases hq : labEq e.label t
      · simpa using hc
      · have hx := (labEq_iff _ _).1 hq
        rw [← hx] at hc ⊢
        have : ¬ 40 ≤ (audAll l e.label).length := by simpa [audFull] using h2
        simp
        omega
  · rw [if_neg hz]
    exact h
theorem add_lenA (l : List Ent) (e : Ent) : (audAdd l e).length ≤ l.length + 1 := by
  unfold audAdd
  split
  · rw [ins_len]; omega
  · omega
theorem add_all {l : List Ent} (h : SortE l) (e : Ent) (t : Lab) : audAll (audAdd l e) t = audAll l t ++ if audErr l e = 0 ∧ labEq e.label t = true then [audNext l e] else [] := by
  unfold audAdd
  by_cases hz : audErr l e = 0
  · rw [if_pos hz, ins_all h, next_label]
    cases hq : labEq e.label t <;> simp [hz]
  · rw [if_neg hz, if_neg (fun q => hz q.1), List.append_nil]
theorem add_seen (l : List Ent) (e : Ent) (b : Lab) : (audSeen l b).Sublist (audSeen (audAdd l e) b) := by
  unfold audAdd
  split
  · exact ins_seen _ b
  · exact List.Sublist.refl _
theorem add_chain {l : List Ent} (h : SortE l) (e : Ent) (t : Lab) : audChain (audAdd l e) t = if audErr l e = 0 ∧ labEq e.label t = true then chain (audChain l t) (encE (audNext l e)) else audChain l t := by
  unfold audChain
  rw [add_all h]
  split
  · rw [List.foldl_append]
    rfl
  · rw [List.append_nil]
theorem chain_ltA (h : Nat) (l : List UInt8) (hh : h < 18446744073709551616) : chain h l < 18446744073709551616 := by
  unfold chain
  induction l generalizing h with
  | nil => exact hh
  | cons c r ih => exact ih (st h c.toNat) (st_lt _ _)
theorem aud_chain_lt (l : List Ent) (t : Lab) : audChain l t < 18446744073709551616 := by
  unfold audChain
  have : ∀ (xs : List Ent) (h : Nat), h < 18446744073709551616 → xs.foldl (fun h e => chain h (encE e)) h < 18446744073709551616 := fun xs => by
    induction xs with
    | nil => exact fun h hh => hh
    | cons x r ih => exact fun h hh => ih _ (chain_ltA _ _ hh)
  exact this _ _ (chain_ltA _ _ (chain_ltA _ _ (by decide)))
/-! Entries compared. -/
def entEq (a b : Ent) : Bool := (a.seq == b.seq) && labEq a.label b.label && eqs a.user b.user && (a.verb == b.verb) && eqs a.object b.object && (a.verdict == b.verdict)
theorem entEq_iff {a b : Ent} : entEq a b = true ↔ a = b := by
  unfold entEq
  simp only [Bool.and_eq_true, beq_iff_eq, labEq_iff, eqs_iff]
  cases a; cases b
  simp only [Ent.mk.injEq]
  constructor
  · rintro ⟨⟨⟨⟨⟨h1, h2⟩, h3⟩, h4⟩, h5⟩, h6⟩
    exact ⟨h1, h2, h3, h4, h5, h6⟩
  · rintro ⟨h1, h2, h3, h4, h5, h6⟩
    exact ⟨⟨⟨⟨⟨h1, h2⟩, h3⟩, h4⟩, h5⟩, h6⟩
/-- Is that the one that is awaited? -/
def isE (seen : List Ent) (n : Nat) (x : Ent) : Bool := seen[n]?.any fun y => entEq x y
theorem isE_iff {seen : List Ent} {n : Nat} {x : Ent} : isE seen n x = true ↔ seen[n]? = some x := by
  unfold isE
  cases seen[n]? with
  | none => simp
  | some y =>
    rw [Option.any_some, entEq_iff]
    exact ⟨fun q => by rw [q], fun q => (Option.some.inj q).symm⟩
/-- How many of a row are met in another one, one behind the other. -/
def metE (seen : List Ent) : List Ent → Nat → Nat
  | [], n => n
  | x :: r, n => metE seen r (if isE seen n x = true then n + 1 else n)
theorem met_all : ∀ (r s : List Ent) (seen : List Ent) (n : Nat), n + s.length = seen.length → seen.drop n = s → s.Sublist r → metE seen r n = seen.length
  | [], s, seen, n, hn, hd, h => by
    have := List.sublist_nil.1 h
    subst this
    simpa [metE] using hn
  | x :: r, s, seen, n, hn, hd, h => by
    rw [metE]
    cases s with
    | nil =>
      have hl : ¬ n < seen.length := by simp at hn; omega
      rw [if_neg (fun q => hl (List.getElem?_eq_some_iff.1 (isE_iff.1 q)).1)]
      exact met_all r [] seen n hn hd (List.nil_sublist r)
    | cons y q =>
      have hy : seen[n]? = some y := by
        have : (seen.drop n)[0]? = some y := by rw [hd]; rfl
        rwa [List.getElem?_drop, Nat.add_zero] at this
      by_cases hxy : y = x
      · subst hxy
        rw [if_pos (isE_iff.2 hy)]
        refine met_all r q seen (n + 1) (by simp at hn; omega) ?_ ?_
        · have := congrArg List.tail hd
          rw [List.tail_drop] at this
          exact this
        · rcases List.sublist_cons_iff.1 h with h1 | ⟨q', h1, h2⟩
          · exact (List.sublist_cons_self y q).trans h1
          · injection h1 with _ h3
            subst h3
            exact h2
      · rw [if_neg (fun k => hxy (by have := isE_iff.1 k; rw [hy] at this; exact Option.some.inj this))]
        refine met_all r (y :: q) seen n hn hd ?_
        rcases List.sublist_cons_iff.1 h with h1 | ⟨q', h1, h2⟩
        · exact h1
        · injection h1 with h3 _
          exact absurd h3 hxy
theorem met_sub {seen r : List Ent} (h : seen.Sublist r) : metE seen r 0 = seen.length := met_all r seen seen 0 (by simp) (by simp) h
/-! Entries such as may be. -/
def cutS (s : ByteArray) (k : Nat) : ByteArray := if k < s.size then s.extract 0 k else s
def goodE (e : Ent) : Ent := { e with label := goodL e.label, verb := 1 + e.verb % 14, verdict := e.verdict % 38, user := cutS e.user 12, object := cutS e.object 30 }
theorem cut_size (s : ByteArray) (k : Nat) : (cutS s k).size ≤ k := by
  unfold cutS
  split
  · rw [ByteArray.size_extract]; omega
  · omega
theorem goodE_may (e : Ent) : audMay (goodE e) = 0 := by
  refine may_zero.2 ⟨?_, ?_, ?_, ?_, ?_, ?_, ?_⟩
  · exact chkL_zero.2 (good_GL e.label)
  · show 1 ≤ 1 + e.verb % 14; omega
  · show 1 + e.verb % 14 ≤ 14; omega
  · exact Nat.le_trans (cut_size _ _) (by decide)
  · exact Nat.le_trans (cut_size _ _) (by decide)
  · show 0 ≤ e.verdict % 38; omega
  · show e.verdict % 38 ≤ 255; omega
end Go.Proofs.YtohocomemkckeaaDoor

/-! ROWS OF THE CALL'S OWN, OF WHATEVER ELEMENTS: what they hold, and append onto them. For every stage from the tenth on. -/
namespace Go.Proofs.YtohocomemkckeaaDoor
open Go.RowKit
set_option maxRecDepth 8000
set_option linter.unusedSimpArgs false
set_option linter.unusedVariables false

/-- An element's type e, its slices' type t, its cells. -/
structure ElemOk {α : Type} (e t : TypeId) (sz : Nat) (f : α → List Value) : Prop where
  und : Tryd.prog.underlying t = some (.slice e)
  info : ∃ i z b, Tryd.prog.info? e = some i ∧ i.zero = some z ∧ i.size = sz ∧ i.bytes = b ∧ z.cells.size = sz ∧ b ≤ 10000
  pos : 0 < sz
  len : ∀ x, (f x).length = sz
  one : ∀ x, ∀ u ∈ f x, u.oneCell' = true
theorem info_of {e : TypeId} {z : Value} {sz b : Nat} (h : (Tryd.prog.info? e).map (fun i => (i.zero, i.size, i.bytes)) = some (some z, sz, b)) : ∃ i, Tryd.prog.info? e = some i ∧ i.zero = some z ∧ i.size = sz ∧ i.bytes = b := by
  cases hi : Tryd.prog.info? e with
  | none => rw [hi] at h; cases h
  | some i =>
    rw [hi] at h
    have hq : (i.zero, i.size, i.bytes) = (some z, sz, b) := Option.some.inj h
    exact ⟨i, rfl, congrArg Prod.fst hq, congrArg (fun p => p.2.1) hq, congrArg (fun p => p.2.2) hq⟩
theorem flat_at {α β : Type} {f : α → List β} {n : Nat} (hf : ∀ a, (f a).length = n) : ∀ (l : List α) (j k : Nat) (a : α), l[j]? = some a → k < n → (l.flatMap f)[j * n + k]? = (f a)[k]?
  | [], _, _, _, h, _ => by simp at h
  | b :: r, 0, k, a, h, hk => by
    simp at h
    subst h
    rw [List.flatMap_cons, Nat.zero_mul, Nat.zero_add, List.getElem?_append_left (by rw [hf]; exact hk)]
  | b :: r, j + 1, k, a, h, hk => by
    simp at h
    rw [List.flatMap_cons, List.getElem?_append_right (by rw [hf, Nat.succ_mul]; omega), hf, show (j + 1) * n + k - n = j * n + k by rw [Nat.succ_mul]; omega]
    exact flat_at hf r j k a h hk
theorem flat_length {α β : Type} {f : α → List β} {n : Nat} (hf : ∀ a, (f a).length = n) : ∀ l : List α, (l.flatMap f).length = l.length * n
  | [] => by simp
  | a :: r => by rw [List.flatMap_cons, List.length_append, hf, flat_length hf r, List.length_cons, Nat.succ_mul, Nat.add_comm]
/-- Elements, one behind the other, wherever they lie. -/
def RowAt {α : Type} (sz : Nat) (f : α → List Value) (W : World) (a : Option Addr) (l : List α) : Prop := ∀ j x, l[j]? = some x → ∃ y, a = some y ∧ ∀ i, i < sz → W.cell? (y.add (j * sz + i)) = (f x)[i]?
section
variable {α : Type} {e t : TypeId} {sz : Nat} {f : α → List Value} {w w' W : World} {base b : Nat} {v v' : Value} {l : List α}
theorem RowAt.below {a : Option Addr} (hf : ∀ x, (f x).length = sz) (h : RowAt sz f w a l) (k : Below w.heap.size w w') : RowAt sz f w' a l := fun j x hx => by
  obtain ⟨y, hy, hc⟩ := h j x hx
  refine ⟨y, hy, fun i hi => ?_⟩
  have h1 := hc i hi
  obtain ⟨u, hu⟩ : ∃ u, (f x)[i]? = some u := ⟨_, List.getElem?_eq_getElem (by rw [hf]; exact hi)⟩
  rw [hu] at h1 ⊢
  exact (k.cell (World.block_lt_of_cell? _ _ h1)).trans h1
theorem RowAt.flat {a : Addr} (hf : ∀ x, (f x).length = sz) (hp : 0 < sz) (h : RowAt sz f w (some a) l) : ∀ j u, (l.flatMap f)[j]? = some u → w.cell? (a.add j) = some u := fun j u hu => by
  have hj := (List.getElem?_eq_some_iff.1 hu).1
  rw [flat_length hf] at hj
  have hq : j / sz < l.length := Nat.div_lt_of_lt_mul (by rw [Nat.mul_comm]; exact hj)
  have hm : j % sz < sz := Nat.mod_lt _ hp
  have hjm : j / sz * sz + j % sz = j := by rw [Nat.mul_comm]; exact Nat.div_add_mod j sz
  have hx : l[j / sz]? = some l[j / sz] := List.getElem?_eq_getElem hq
  have h1 := flat_at hf l (j / sz) (j % sz) _ hx hm
  rw [hjm, hu] at h1
  obtain ⟨y, hy, hc⟩ := h (j / sz) _ hx
  obtain rfl := Option.some.inj hy
  have h2 := hc (j % sz) hm
  rw [hjm] at h2
  rw [h2, ← h1]
def OwnR (e : TypeId) (sz : Nat) (f : α → List Value) (w : World) (base : Nat) (v : Value) (l : List α) : Prop := w.ownsRow base e sz v l.length (l.flatMap f)
theorem OwnR.nil (e : TypeId) (sz : Nat) (f : α → List Value) (w : World) (base : Nat) : OwnR e sz f w base (.slice none 0 0) [] := World.ownsRow_nil _ _ _ _
theorem OwnR.lt (h : OwnR e sz f w base v l) {k : Nat} (hk : v.ownBlock = some k) : base ≤ k ∧ k < w.heap.size := World.ownsRow.lt (show w.ownsRow base e sz v l.length (l.flatMap f) from h) k hk
theorem OwnR.keep (h : OwnR e sz f w base v l) (hb : ∀ k, v.ownBlock = some k → w'.heap[k]? = w.heap[k]?) : OwnR e sz f w' base v l := by
  refine ⟨h.1, ?_⟩
  rcases h.2 with h1 | ⟨g, cap, cur, hv, hg, hh, rest⟩
  · exact .inl h1
  · refine .inr ⟨g, cap, cur, hv, hg, ?_, rest⟩
    rw [hb g (by rw [hv]; rfl)]
    exact hh
theorem OwnR.below (h : OwnR e sz f w base v l) (k : Below w.heap.size w w') : OwnR e sz f w' base v l := h.keep fun j hj => k.block j (h.lt hj).2
theorem OwnR.lower (h : OwnR e sz f w base v l) (hb : b ≤ base) : OwnR e sz f w b v l := by
  refine ⟨h.1, ?_⟩
  rcases h.2 with h1 | ⟨g, cap, cur, hv, hg, rest⟩
  · exact .inl h1
  · exact .inr ⟨g, cap, cur, hv, Nat.le_trans hb hg, rest⟩
theorem OwnR.slice (hf : ∀ x, (f x).length = sz) (h : OwnR e sz f w base v l) : ∃ a cap, v = .slice a l.length cap ∧ l.length ≤ cap ∧ (a = none → cap = 0) ∧ RowAt sz f w a l := by
  have hrow : w.ownsRow base e sz v l.length (l.flatMap f) := h
  rcases h.2 with ⟨rfl, h2⟩ | ⟨g, cap, cur, rfl, _, _, hc, _⟩
  · refine ⟨none, 0, by rw [h2], by omega, fun _ => rfl, fun j u hu => ?_⟩
    have := (List.getElem?_eq_some_iff.1 hu).1
    omega
  · refine ⟨_, cap, rfl, hc, fun q => (by cases q), fun j u hu => ⟨_, rfl, fun k hk => ?_⟩⟩
    have hj := (List.getElem?_eq_some_iff.1 hu).1
    rw [add_at, hrow.cellAt (j * sz + k) (by
      have : (j + 1) * sz ≤ l.length * sz := Nat.mul_le_mul_right _ hj
      rw [Nat.succ_mul] at this
      omega), flat_at hf l j k u hu hk]
/-- append of elements that lie anywhere. -/
theorem OwnR.append (hE : ElemOk e t sz f) (h : OwnR e sz f w base v l) (hb : base ≤ w.heap.size) (y : Addr) (m c : Nat) (l2 : List α) (hm : l2.length = m) (h2 : RowAt sz f w (some y) l2) (hl : l.length < 900000) (hl2 : m < 900000) :
    ∃ v' w', (Builtin.append_ #[t, t] t #[v, .slice (some y) m c]).run Tryd.prog w = .ok v' w' ∧ OwnR e sz f w' base v' (l ++ l2) ∧ Grew w v w' v' := by
  obtain ⟨i, z, by_, hi, hz, hs, hby, hzs, hbb⟩ := hE.info
  obtain ⟨v', W', h1, h2', h3⟩ := run_append_grew (P := Tryd.prog) w base t t e i z sz by_ hE.und hi hz hs hby hzs hE.pos v l.length _ h y m c (l2.flatMap f) (by rw [flat_length hE.len, hm]) (h2.flat hE.len hE.pos) (fun u hu => by
    obtain ⟨x, _, hx⟩ := List.mem_flatMap.1 hu
    exact hE.one x u hx) (by simp only [maxLen]; omega) (by
      have : (l.length + m) * by_ ≤ 1800000 * 10000 := Nat.mul_le_mul (by omega) hbb
      omega) hb
  refine ⟨v', W', h1, ?_, h3⟩
  unfold OwnR
  rw [List.flatMap_append, List.length_append, hm]
  exact h2'
theorem row_made (hf : ∀ x, (f x).length = sz) (w : World) (x : α) (cs : Array Value) (hcs : cs = (f x).toArray) (T : TypeId) : RowAt sz f (w.alloc (.cells cs T)) (some ⟨w.heap.size, 0, none⟩) [x] := fun j u hu => by
  have hj : j = 0 := by
    have := (List.getElem?_eq_some_iff.1 hu).1
    simpa using this
  subst hj
  obtain rfl : x = u := by simpa using hu
  refine ⟨_, rfl, fun i hi => ?_⟩
  rw [add_at, World.cell?_alloc_at _ _ _ _ rfl, hcs]
  simp
/-- append of one element that was just made. -/
theorem OwnR.push (hE : ElemOk e t sz f) (h : OwnR e sz f w base v l) (hb : base ≤ w.heap.size) (x : α) (cs : Array Value) (hcs : cs = (f x).toArray) (T : TypeId) (hl : l.length < 900000) :
    ∃ v' w', (Builtin.append_ #[t, t] t #[v, .slice (some ⟨w.heap.size, 0, none⟩) 1 1]).run Tryd.prog (w.alloc (.cells cs T)) = .ok v' w' ∧ OwnR e sz f w' base v' (l ++ [x]) ∧ Grew w v w' v' := by
  obtain ⟨v', w', h1, h2, h3⟩ := (h.below (alloc_below w (.cells cs T))).append hE (by simp; omega) ⟨w.heap.size, 0, none⟩ 1 1 [x] rfl (row_made hE.len w x cs hcs T) hl (by omega)
  exact ⟨v', w', h1, h2, (Grew.alloc w v _).trans h3⟩
theorem OwnR.grew_below (h : OwnR e sz f w base v l) (hb : base ≤ w.heap.size) (k : Grew w v w' v') : Below base w w' := k.below hb fun j hj => (h.lt hj).1
end
section
variable {ops : Array Oper} {o : Oper} {a : Act} {w : World} {Q : Exit → Act → World → Prop}
theorem step_append {t : TypeId} {K : Act → World → Prop} {E : Prop} (hg : o.guard = none) (s x : Operand) (hop : o.op = Op.call { callee := Callee.builtin Builtin.append, args := #[s, x], argTypes := #[t, t] }) (hty : o.type = t) {u v r : Value} {w' : World} (hs : a.eval s = u) (hx : a.eval x = v)
    (hrun : (Builtin.append_ #[t, t] t #[u, v]).run Tryd.prog w = .ok r w') (hK : K (a.put o.dst r) w') :
    if Region.wanted o (yielded ops a.tmps) = true then Oper.wp Tryd.prog o a w K Q else E := by
  have hw : Region.wanted o (yielded ops a.tmps) = true := by simp [Region.wanted, hg]
  rw [if_pos hw]
  unfold Oper.wp
  simp [execOp, hop, hty, resolve, invoke, builtin, hs, hx, hrun, Result.andThen]
  exact hK
theorem wpList_append {t : TypeId} {rest : List Oper} (hg : o.guard = none) (x y : Operand) (ho : o.op = .call { callee := .builtin .append, args := #[x, y], argTypes := #[t, t] }) (hty : o.type = t) {u v r : Value} {w' : World} (hx : a.eval x = u) (hy : a.eval y = v)
    (hc : (Builtin.append_ #[t, t] t #[u, v]).run Tryd.prog w = .ok r w')
    (h : wpList Tryd.prog ops Q rest (a.put o.dst r) w') : wpList Tryd.prog ops Q (o :: rest) a w := by
  refine wpList_value hg ?_ h
  unfold execOp
  simp only [ho, hty, resolve, invoke, builtin, Sem.run_bind, Sem.run_pure, Result.andThen_ok]
  simp [hx, hy, hc, Result.andThen]
end
end Go.Proofs.YtohocomemkckeaaDoor

/-! A BLOCK OF THE CALL'S OWN, CELL BY CELL: what it holds, and that it may be stored to. -/
namespace Go.Proofs.YtohocomemkckeaaDoor
open Go.RowKit
set_option maxRecDepth 8000
set_option linter.unusedSimpArgs false
set_option linter.unusedVariables false

def Blk (W : World) (b : Nat) (vs : List Value) : Prop := ∀ k v, vs[k]? = some v → W.cell? ⟨b, k, none⟩ = some v ∧ W.frozen? ⟨b, k, none⟩ = false
theorem Blk.same {W W' : World} {b : Nat} {vs : List Value} (h : Blk W b vs) (hb : W'.heap[b]? = W.heap[b]?) : Blk W' b vs := fun k v hv =>
  ⟨(World.cell?_of_block (a := ⟨b, k, none⟩) hb).trans (h k v hv).1, (World.frozen?_of_block (a := ⟨b, k, none⟩) hb).trans (h k v hv).2⟩
theorem blk_alloc (w : World) (cs : Array Value) (T : TypeId) : Blk (w.alloc (.cells cs T)) w.heap.size cs.toList := fun k v hv =>
  ⟨by rw [World.cell?_alloc_at _ _ _ _ rfl]; simpa using hv, World.frozen?_alloc_new w cs T k⟩
theorem Blk.lt {W : World} {b : Nat} {vs : List Value} (h : Blk W b vs) {v : Value} (h0 : vs[0]? = some v) : b < W.heap.size := World.block_lt_of_cell? _ ⟨b, 0, none⟩ (h 0 v h0).1
theorem Blk.set {W : World} {b : Nat} {vs : List Value} (h : Blk W b vs) (k : Nat) (v : Value) (hk : k < vs.length) : Blk (W.setCell ⟨b, k, none⟩ v) b (vs.set k v) := fun j u hu => by
  by_cases hj : k = j
  · subst hj
    rw [List.getElem?_set_self hk] at hu
    obtain rfl := Option.some.inj hu
    obtain ⟨h1, h2⟩ := h k vs[k] (List.getElem?_eq_getElem hk)
    exact ⟨by simp [World.cell?_setCell_same', h1], by simp [World.frozen?_setCell, h2]⟩
  · rw [List.getElem?_set_ne hj] at hu
    obtain ⟨h1, h2⟩ := h j u hu
    exact ⟨by rw [World.cell?_setCell_other]; exact h1; simp [hj], by simp [World.frozen?_setCell, h2]⟩
end Go.Proofs.YtohocomemkckeaaDoor

/-! WHOLE STRUCTS AT ONCE: loaded, stored, handed back, whatever their number of cells. For every stage from the tenth on. -/
namespace Go.Proofs.YtohocomemkckeaaDoor
open Go.RowKit
set_option maxRecDepth 8000
set_option linter.unusedSimpArgs false
set_option linter.unusedVariables false

theorem Blk.range {W : World} {b : Nat} {vs : List Value} (h : Blk W b vs) : W.rangeAt b 0 vs := fun j v hv => by
  rw [Nat.zero_add]
  exact (h j v hv).1
theorem Blk.there {W : World} {b : Nat} {vs : List Value} (h : Blk W b vs) : W.there b 0 vs.length := fun j hj => by
  rw [Nat.zero_add]
  have := h j vs[j] (List.getElem?_eq_getElem hj)
  exact ⟨by rw [this.1]; rfl, this.2⟩
theorem blk_of {W : World} {b : Nat} {vs : List Value} (h1 : W.rangeAt b 0 vs) (h2 : W.there b 0 vs.length) : Blk W b vs := fun k v hv => by
  have hk := (List.getElem?_eq_some_iff.1 hv).1
  have e1 := h1 k v hv
  have e2 := (h2 k hk).2
  rw [Nat.zero_add] at e1 e2
  exact ⟨e1, e2⟩
theorem Blk.setAll {W : World} {b : Nat} {vs cs : List Value} (h : Blk W b vs) (hl : vs.length = cs.length) : Blk (W.setCells b 0 cs) b cs := by
  have ht : W.there b 0 cs.length := by rw [← hl]; exact h.there
  exact blk_of (World.rangeAt_setCells_same W b 0 cs ht) (World.there_setCells ht b 0 cs)
theorem Below.cells {B : Nat} {a : World} {b : Nat} (hp : B ≤ b) : ∀ (vs : List Value) (o : Nat) {w : World} (_ : Below B a w), Below B a (w.setCells b o vs)
  | [], _, _, h => h
  | v :: r, o, _, h => Below.cells hp r (o + 1) (h.setCell (p := ⟨b, o, none⟩) hp v)
theorem heap_setCells_other {b k : Nat} (hk : k ≠ b) : ∀ (vs : List Value) (o : Nat) (w : World), (w.setCells b o vs).heap[k]? = w.heap[k]?
  | [], _, _ => rfl
  | v :: r, o, w => (heap_setCells_other hk r (o + 1) _).trans (heap_setCell_other _ ⟨b, o, none⟩ k _ hk)
theorem OwnR.setAll {α : Type} {e : TypeId} {sz : Nat} {f : α → List Value} {w : World} {base g : Nat} {v : Value} {l : List α} (h : OwnR e sz f w base v l) (hg : v.ownBlock ≠ some g) (vs : List Value) : OwnR e sz f (w.setCells g 0 vs) base v l :=
  h.keep fun k hk => heap_setCells_other (fun q => hg (by rw [hk, q])) vs 0 w
section
variable {ops : Array Oper} {rest : List Oper} {o : Oper} {a : Act} {w W : World} {Q : Exit → Act → World → Prop} {T : TypeId} {d : TypeDesc}
theorem wpList_load_row (hg : o.guard = none) (x : Operand) (ho : o.op = .load T x) (b : Nat) (hx : a.eval x = .pointer (some ⟨b, 0, none⟩)) (cs : List Value) (hc : w.rangeAt b 0 cs)
    (hu : Tryd.prog.underlying T = some d) (hd : d.isRow = true) (hi : (Tryd.prog.info? T).map (·.size) = some cs.length)
    (h : wpList Tryd.prog ops Q rest (a.put o.dst (.agg cs.toArray)) w) : wpList Tryd.prog ops Q (o :: rest) a w := wpList_load_mid hg T x ho b 0 hx cs d hc hu hd hi h
theorem wpList_store_row (hg : o.guard = none) (x y : Operand) (ho : o.op = .store T x y) (b : Nat) (hx : a.eval x = .pointer (some ⟨b, 0, none⟩)) (cs : List Value) (hy : a.eval y = .agg cs.toArray)
    (ht : w.there b 0 cs.length) (hi : (Tryd.prog.info? T).map (·.size) = some cs.length) (h1 : ∀ v ∈ cs, v.oneCell' = true) (hW : w.setCells b 0 cs = W)
    (h : wpList Tryd.prog ops Q rest (a.put o.dst undef) W) : wpList Tryd.prog ops Q (o :: rest) a w :=
  wpList_store_mid hg T x y ho b 0 cs.toArray hx hy ht hi (all_oneCell_toArray h1) (hW ▸ h)
end
section
variable {ops : Array Oper} {rest : List Oper} {o : Oper} {a : Act} {w : World} {Q : Exit → Act → World → Prop} {T : TypeId} {d : TypeDesc} {S : World → Prop}
/-- In a region that draws its order. -/
theorem yields_row (hw : Region.wanted o (yielded ops a.tmps) = true) (x : Operand) (ho : o.op = .load T x) (b : Nat) (hx : a.eval x = .pointer (some ⟨b, 0, none⟩)) (cs : List Value) (hS : ∀ w, S w → w.rangeAt b 0 cs)
    (hu : Tryd.prog.underlying T = some d) (hd : d.isRow = true) (hi : (Tryd.prog.info? T).map (·.size) = some cs.length) : YieldsIf Tryd.prog ops S o (.agg cs.toArray) a := yieldsIf_load_mid hw T x ho b 0 hx cs d hS hu hd hi
theorem yields_conv {t u : TypeId} {v r : Value} (hw : Region.wanted o (yielded ops a.tmps) = true) (x : Operand) (ho : o.op = .convert t u x) (hx : a.eval x = v) (hS : ∀ w, S w → (convert t u v).run Tryd.prog w = .ok r w) : YieldsIf Tryd.prog ops S o r a :=
  .inl ⟨hw, fun w hw' => by
    unfold execOp
    simp only [ho, hx, Sem.run_bind, hS w hw', Result.andThen_ok]
    rfl⟩
/-- A load under a guard that lets it be. -/
theorem wpList_load_rowg (hw : Region.wanted o (yielded ops a.tmps) = true) (x : Operand) (ho : o.op = .load T x) (b : Nat) (hx : a.eval x = .pointer (some ⟨b, 0, none⟩)) (cs : List Value) (hc : w.rangeAt b 0 cs)
    (hu : Tryd.prog.underlying T = some d) (hd : d.isRow = true) (hi : (Tryd.prog.info? T).map (·.size) = some cs.length)
    (h : wpList Tryd.prog ops Q rest (a.put o.dst (.agg cs.toArray)) w) : wpList Tryd.prog ops Q (o :: rest) a w := wpList_step fun K hK => by
  rw [if_pos hw]
  exact wp_load_mid T x ho b 0 hx cs d hc hu hd hi (hK _ _ h)
end
/-- What a function hands back whose results are a struct of the call's own, and a value beside it. -/
theorem results_row2 {fn : Func} {p q : Tmp} {T : TypeId} {d : TypeDesc} (h : fn.results = #[.cell p T, .tmp q]) (tmps : Array Value) (w : World) (g : Nat) (hp : tmps.getD p undef = .pointer (some ⟨g, 0, none⟩)) (v : Value) (hv : tmps.getD q undef = v) (cs : List Value) (hr : w.rangeAt g 0 cs)
    (hu : Tryd.prog.underlying T = some d) (hd : d.isRow = true) (hi : (Tryd.prog.info? T).map (·.size) = some cs.length) :
    (results fn tmps).run Tryd.prog w = .ok (.tuple #[.agg cs.toArray, v]) w := by
  have hp' : tmps[p]?.getD undef = .pointer (some ⟨g, 0, none⟩) := by simpa using hp
  have hv' : tmps[q]?.getD undef = v := by simpa using hv
  have e := run_loadVar_mid (P := Tryd.prog) w g 0 T cs d hr hu hd hi
  simp [results, h, hp', hv', asAddr, e]
theorem results_row1 {fn : Func} {p : Tmp} {T : TypeId} {d : TypeDesc} (h : fn.results = #[.cell p T]) (tmps : Array Value) (w : World) (g : Nat) (hp : tmps.getD p undef = .pointer (some ⟨g, 0, none⟩)) (cs : List Value) (hr : w.rangeAt g 0 cs)
    (hu : Tryd.prog.underlying T = some d) (hd : d.isRow = true) (hi : (Tryd.prog.info? T).map (·.size) = some cs.length) :
    (results fn tmps).run Tryd.prog w = .ok (.agg cs.toArray) w := by
  have hp' : tmps[p]?.getD undef = .pointer (some ⟨g, 0, none⟩) := by simpa using hp
  have e := run_loadVar_mid (P := Tryd.prog) w g 0 T cs d hr hu hd hi
  simp [results, h, hp', asAddr, e]
  try rfl
end Go.Proofs.YtohocomemkckeaaDoor

/-! WHOLE STRUCTS LOADED AT ANY ADDRESS (an element of a row). For every stage from the eleventh on. -/
namespace Go.Proofs.YtohocomemkckeaaDoor
open Go.RowKit
set_option maxRecDepth 8000
set_option linter.unusedSimpArgs false
set_option linter.unusedVariables false

def CellsAt (w : World) (x : Addr) (cs : List Value) : Prop := ∀ j v, cs[j]? = some v → w.cell? (x.add j) = some v
theorem run_loadVar_at {P : Program} (w : World) (x : Addr) (ty : TypeId) (cs : List Value) (d : TypeDesc) (hc : CellsAt w x cs)
    (hu : P.underlying ty = some d) (hd : d.isRow = true) (hi : (P.info? ty).map (·.size) = some cs.length) :
    (loadVar ty x).run P w = .ok (.agg cs.toArray) w := by
  have hl : (loadCells x cs.length).run P w = .ok cs.toArray w := run_loadCells_list (P := P) w x cs hc
  cases hq : P.info? ty with
  | none => simp [hq] at hi
  | some i =>
    have hs : i.size = cs.length := by simpa [hq] using hi
    have hagg : (isAgg ty).run P w = .ok true w := by
      unfold isAgg
      rw [Sem.run_bind, run_underlying hu w]
      cases d <;> simp_all
    simp [loadVar, Sem.run_bind, hagg, sizeOf, typeInfo, hq, hs, hl]
section
variable {ops : Array Oper} {rest : List Oper} {o : Oper} {a : Act} {w : World} {Q : Exit → Act → World → Prop} {T : TypeId} {d : TypeDesc} {S : World → Prop}
theorem wp_load_at {K : Act → World → Prop} (x : Operand) (ho : o.op = .load T x) (y : Addr) (hx : a.eval x = .pointer (some y)) (cs : List Value) (hc : CellsAt w y cs)
    (hu : Tryd.prog.underlying T = some d) (hd : d.isRow = true) (hi : (Tryd.prog.info? T).map (·.size) = some cs.length) (h : K (a.put o.dst (.agg cs.toArray)) w) : o.wp Tryd.prog a w K Q := by
  unfold Oper.wp execOp
  simp only [ho, hx, Instr.loadAt, Instr.sureAddr, Sem.run_bind, Sem.run_pure, Result.andThen_ok, run_loadVar_at w y T cs d hc hu hd hi]
  exact h
theorem wpList_load_at (hg : o.guard = none) (x : Operand) (ho : o.op = .load T x) (y : Addr) (hx : a.eval x = .pointer (some y)) (cs : List Value) (hc : CellsAt w y cs)
    (hu : Tryd.prog.underlying T = some d) (hd : d.isRow = true) (hi : (Tryd.prog.info? T).map (·.size) = some cs.length)
    (h : wpList Tryd.prog ops Q rest (a.put o.dst (.agg cs.toArray)) w) : wpList Tryd.prog ops Q (o :: rest) a w :=
  wpList_plain hg fun _ hK => wp_load_at x ho y hx cs hc hu hd hi (hK _ _ h)
theorem wpList_load_atg (hw : Region.wanted o (yielded ops a.tmps) = true) (x : Operand) (ho : o.op = .load T x) (y : Addr) (hx : a.eval x = .pointer (some y)) (cs : List Value) (hc : CellsAt w y cs)
    (hu : Tryd.prog.underlying T = some d) (hd : d.isRow = true) (hi : (Tryd.prog.info? T).map (·.size) = some cs.length)
    (h : wpList Tryd.prog ops Q rest (a.put o.dst (.agg cs.toArray)) w) : wpList Tryd.prog ops Q (o :: rest) a w := wpList_step fun K hK => by
  rw [if_pos hw]
  exact wp_load_at x ho y hx cs hc hu hd hi (hK _ _ h)
theorem yields_at (hw : Region.wanted o (yielded ops a.tmps) = true) (x : Operand) (ho : o.op = .load T x) (y : Addr) (hx : a.eval x = .pointer (some y)) (cs : List Value) (hS : ∀ w, S w → CellsAt w y cs)
    (hu : Tryd.prog.underlying T = some d) (hd : d.isRow = true) (hi : (Tryd.prog.info? T).map (·.size) = some cs.length) : YieldsIf Tryd.prog ops S o (.agg cs.toArray) a :=
  .inl ⟨hw, fun w hw' => by
    unfold execOp
    simp only [ho, hx, Instr.loadAt, Instr.sureAddr, Sem.run_bind, Sem.run_pure, Result.andThen_ok, run_loadVar_at w y T cs d (hS w hw') hu hd hi]⟩
end
theorem CellsAt.below {w w' : World} {x : Addr} {cs : List Value} (h : CellsAt w x cs) (b : Below w.heap.size w w') : CellsAt w' x cs := fun j v hv => (b.cell (World.block_lt_of_cell? _ _ (h j v hv))).trans (h j v hv)
/-- An element of a row. -/
theorem RowAt.at {α : Type} {sz : Nat} {f : α → List Value} {W : World} {y : Addr} {l : List α} (hf : ∀ x, (f x).length = sz) (h : RowAt sz f W (some y) l) {j : Nat} {x : α} (hx : l[j]? = some x) : CellsAt W (y.add (j * sz)) (f x) := fun i v hv => by
  obtain ⟨y', hy', hc⟩ := h j x hx
  obtain rfl := Option.some.inj hy'
  have hi := (List.getElem?_eq_some_iff.1 hv).1
  rw [hf] at hi
  rw [Addr.add_add, hc i hi, hv]
end Go.Proofs.YtohocomemkckeaaDoor

/-! A ROW OF ONE STRUCT, BUILT (append of a struct). For every stage from the eleventh on. -/
namespace Go.Proofs.YtohocomemkckeaaDoor
open Go.RowKit
set_option maxRecDepth 8000
set_option linter.unusedSimpArgs false
set_option linter.unusedVariables false

theorem fill_one {s : Nat} (hs : 0 < s) (zs : Array Value) (cs : List Value) (hz : zs.size = s) (hc : cs.length = s) : Instr.fill (fun i => some (i * s, s)) zs [(0, .agg cs.toArray)] = some cs.toArray := by
  obtain ⟨r, h1, h2, h3⟩ := Great.fill_dense hs [.agg cs.toArray] 0 zs (fun v hv => by rw [List.mem_singleton] at hv; subst hv; simp [Value.cells, hc]) (by simp [hz])
  rw [show ([Value.agg cs.toArray].zipIdx 0).map (fun x => (x.2, x.1)) = [(0, .agg cs.toArray)] from rfl] at h1
  rw [h1]
  congr 1
  apply Array.ext_getElem?
  intro k
  rw [h3 k]
  by_cases hk : k < s
  · rw [if_pos (by simp; omega)]
    simp [Nat.div_eq_of_lt hk, Nat.mod_eq_of_lt hk, Value.cells]
  · rw [if_neg (by simp; omega)]
    simp [Array.getElem?_eq_none (show zs.size ≤ k by omega), List.getElem?_eq_none (show cs.length ≤ k by omega)]
section
variable {ops : Array Oper} {rest : List Oper} {o : Oper} {a : Act} {w : World} {Q : Exit → Act → World → Prop}
theorem run_build1 {α : Type} {e t : TypeId} {sz : Nat} {f : α → List Value} (hE : ElemOk e t sz f) (hsz : sz ≤ 1000) (w : World) (cs : List Value) (hc : cs.length = sz) : (Instr.buildSlice t 1 #[(0, .agg cs.toArray)]).run Tryd.prog w = .ok (.slice (some ⟨w.heap.size, 0, none⟩) 1 1) (w.alloc (.cells cs.toArray e)) := by
  obtain ⟨i, z, b, hi, hz, hs, hb, hzs, hbb⟩ := hE.info
  have hp := hE.pos
  refine run_buildSlice (P := Tryd.prog) w t e 1 #[(0, .agg cs.toArray)] cs.toArray i z hE.und hi hz (by rw [hs]; omega) (by rw [hs]; omega) ?_
  rw [hs, Nat.one_mul]
  exact fill_one hp _ cs (by simp) hc
theorem wpList_build1 {α : Type} {e t : TypeId} {sz : Nat} {f : α → List Value} (hE : ElemOk e t sz f) (hsz : sz ≤ 1000) (hg : o.guard = none) (x : Operand) (ho : o.op = .buildSlice t 1 #[(0, x)]) (cs : List Value) (hx : a.eval x = .agg cs.toArray) (hc : cs.length = sz)
    (h : wpList Tryd.prog ops Q rest (a.put o.dst (.slice (some ⟨w.heap.size, 0, none⟩) 1 1)) (w.alloc (.cells cs.toArray e))) : wpList Tryd.prog ops Q (o :: rest) a w := by
  refine wpList_value hg ?_ h
  unfold execOp
  have hr := run_build1 hE hsz w cs hc
  simp [ho, hx, hr, Result.andThen]
  try rfl
theorem step_build1 {α : Type} {e t : TypeId} {sz : Nat} {f : α → List Value} {K : Act → World → Prop} {E : Prop} (hE : ElemOk e t sz f) (hsz : sz ≤ 1000) (hg : o.guard = none) (x : Operand) (ho : o.op = .buildSlice t 1 #[(0, x)]) (cs : List Value) (hx : a.eval x = .agg cs.toArray) (hc : cs.length = sz)
    (hK : K (a.put o.dst (.slice (some ⟨w.heap.size, 0, none⟩) 1 1)) (w.alloc (.cells cs.toArray e))) :
    if Region.wanted o (yielded ops a.tmps) = true then Oper.wp Tryd.prog o a w K Q else E := by
  have hw : Region.wanted o (yielded ops a.tmps) = true := by simp [Region.wanted, hg]
  rw [if_pos hw]
  unfold Oper.wp execOp
  have hr := run_build1 hE hsz w cs hc
  simp [ho, hx, hr, Result.andThen]
  exact hK
end
end Go.Proofs.YtohocomemkckeaaDoor

/-! WHAT A LAW HOLDS WHILE CALLS MAKE MEMORY OF THEIR OWN: a list of facts, each kept by whatever turns nothing that is there. For every stage from the tenth on. -/
namespace Go.Proofs.YtohocomemkckeaaDoor
open Go.RowKit
set_option maxRecDepth 8000
set_option linter.unusedSimpArgs false
set_option linter.unusedVariables false

def Stab (k : World → Prop) : Prop := ∀ W W', k W → Below W.heap.size W W' → k W'
structure Held (w W : World) (ks : List (World → Prop)) : Prop where
  k : ∀ k ∈ ks, k W ∧ Stab k
  bl : Below w.heap.size w W
section
variable {w W W' : World} {ks : List (World → Prop)} {k : World → Prop}
theorem Held.then (h : Held w W ks) (b : Below W.heap.size W W') : Held w W' ks := ⟨fun k hk => ⟨(h.k k hk).2 _ _ (h.k k hk).1 b, (h.k k hk).2⟩, Below.then h.bl b⟩
theorem Held.drew (h : Held w W ks) : Held w W.drew ks := h.then (Below.refl _ _).drew
theorem held_nil (w : World) : Held w w [] := ⟨fun _ h => by simp at h, Below.refl _ _⟩
theorem Held.add (h : Held w W ks) (hk : k W) (hs : Stab k) : Held w W (k :: ks) := ⟨fun j hj => by
  rcases List.mem_cons.1 hj with rfl | hj
  · exact ⟨hk, hs⟩
  · exact h.k j hj, h.bl⟩
theorem Held.get (h : Held w W ks) {i : Nat} (hi : ks[i]? = some k) : k W := (h.k k (List.mem_of_getElem? hi)).1
end
/-- A struct in a block of the law's own. -/
def BlkL (g : Nat) (cs : List Value) (W : World) : Prop := Blk W g cs ∧ g < W.heap.size
theorem stab_blk (g : Nat) (cs : List Value) : Stab (BlkL g cs) := fun W W' h b => ⟨h.1.same (b.block _ h.2), Nat.lt_of_lt_of_le h.2 b.size⟩
theorem BlkL.range {g : Nat} {cs : List Value} {W : World} (h : BlkL g cs W) : W.rangeAt g 0 cs := h.1.range
theorem blkl_alloc (w : World) (cs : Array Value) (T : TypeId) : BlkL w.heap.size cs.toList (w.alloc (.cells cs T)) := ⟨blk_alloc w cs T, by simp⟩
/-- A struct put into a block that was just made. -/
theorem put_new (W : World) (zs : Array Value) (T : TypeId) (cs : List Value) (hl : cs.length = zs.size) (hp : 0 < cs.length) : ∃ W', (W.alloc (.cells zs T)).setCells W.heap.size 0 cs = W' ∧ (W.alloc (.cells zs T)).there W.heap.size 0 cs.length ∧ BlkL W.heap.size cs W' ∧ Below W.heap.size W W' := by
  have hb := blk_alloc W zs T
  have hl' : zs.toList.length = cs.length := by simp [hl]
  have hs := hb.setAll hl'
  refine ⟨_, rfl, ?_, ⟨hs, ?_⟩, Below.cells (Nat.le_refl _) cs 0 (alloc_below _ _)⟩
  · rw [← hl']
    exact hb.there
  · obtain ⟨v, hv⟩ : ∃ v, cs[0]? = some v := ⟨_, List.getElem?_eq_getElem hp⟩
    exact hs.lt hv
end Go.Proofs.YtohocomemkckeaaDoor

/-! ROWS OF NODES, AND WHERE THEY LIE; the document's own Find and Drop (donjonref11). -/
namespace Go.Proofs.YtohocomemkckeaaDoor
open Go.RowKit
set_option maxRecDepth 8000
set_option linter.unusedSimpArgs false
set_option linter.unusedVariables false

/-- A node's cells, as a list. -/
def nclT (n : Nod) (aa : Option Addr) (ca : Nat) (wa : Option Addr) (cw : Nat) : List Value := [.string n.path, .bool n.dir, .int .i64 n.label.s, .int .i64 n.label.c, .int .i64 n.label.i, .int .i64 n.label.k, .slice aa n.acl.length ca, .int .i64 n.r1, .int .i64 n.r2, .int .i64 n.r3, .int .i64 n.gates, .slice wa n.words.length cw, .int .i64 n.by_.s, .int .i64 n.by_.c, .int .i64 n.by_.i, .int .i64 n.by_.k]
/-- A node, and where its rows lie. -/
structure PN where
  n : Nod
  aa : Option Addr
  ca : Nat
  wa : Option Addr
  cw : Nat
def PN.cs (x : PN) : List Value := nclT x.n x.aa x.ca x.wa x.cw
theorem pn_len (x : PN) : x.cs.length = 16 := rfl
theorem pn_one (x : PN) : ∀ v ∈ x.cs, v.oneCell' = true := by
  intro v hv
  unfold PN.cs nclT at hv
  simp only [List.mem_cons, List.not_mem_nil, or_false] at hv
  rcases hv with rfl | rfl | rfl | rfl | rfl | rfl | rfl | rfl | rfl | rfl | rfl | rfl | rfl | rfl | rfl | rfl <;> rfl
structure PN.At (W : World) (x : PN) : Prop where
  g : GrsAt W x.aa x.n.acl
  w : WrdsAt W x.wa x.n.words
theorem PN.At.below {W W' : World} {x : PN} (h : x.At W) (b : Below W.heap.size W W') : x.At W' := ⟨h.g.below b, h.w.below b⟩
/-- Nodes one behind the other, each with its rows. -/
structure RowN (W : World) (a : Option Addr) (l : List PN) : Prop where
  r : RowAt 16 PN.cs W a l
  p : ∀ x ∈ l, x.At W
theorem RowN.below {W W' : World} {a : Option Addr} {l : List PN} (h : RowN W a l) (b : Below W.heap.size W W') : RowN W' a l := ⟨h.r.below pn_len b, fun x hx => (h.p x hx).below b⟩
def namesP (l : List PN) : List Nod := l.map (·.n)
def findP (l : List PN) (p : ByteArray) : Option PN := l.find? fun x => eqs x.n.path p
def dropP (l : List PN) (p : ByteArray) : List PN := l.filter fun x => !eqs x.n.path p
def putP (l : List PN) (x : PN) : List PN := (dropP l x.n.path).takeWhile (fun y => lt y.n.path x.n.path) ++ x :: (dropP l x.n.path).dropWhile (fun y => lt y.n.path x.n.path)
def underP (l : List PN) (p : ByteArray) : List ByteArray := (l.filter fun x => isUnder p x.n).map fun x => lastOf x.n.path
theorem find_names (l : List PN) (p : ByteArray) : findN (namesP l) p = (findP l p).map (·.n) := by
  unfold findN findP namesP
  rw [List.find?_map]
  rfl
theorem drop_names (l : List PN) (p : ByteArray) : namesP (dropP l p) = dropN (namesP l) p := by
  unfold dropN dropP namesP
  rw [List.filter_map]
  rfl
theorem under_names (l : List PN) (p : ByteArray) : underP l p = underN (namesP l) p := by
  unfold underP underN namesP
  rw [List.filter_map, List.map_map]
  rfl
theorem put_names (l : List PN) (x : PN) : namesP (putP l x) = putN (namesP l) x.n := by
  unfold putN putP
  rw [← drop_names]
  unfold namesP
  rw [List.map_append, List.map_cons, List.takeWhile_map, List.dropWhile_map]
  rfl
theorem put_sub {l : List PN} {x y : PN} (h : y ∈ putP l x) : y = x ∨ y ∈ l := by
  unfold putP at h
  rw [List.mem_append, List.mem_cons] at h
  rcases h with h | h | h
  · exact .inr (List.mem_filter.1 (List.Sublist.subset (List.takeWhile_sublist _) h)).1
  · exact .inl h
  · exact .inr (List.mem_filter.1 (List.Sublist.subset (List.dropWhile_sublist _) h)).1
/-- The node that is none. -/
def zeroP : PN := ⟨⟨⟨#[]⟩, false, ⟨0, 0, 0, 0⟩, [], 0, 0, 0, 0, [], ⟨0, 0, 0, 0⟩⟩, none, 0, none, 0⟩
def foundCs (o : Option PN) : List Value := (o.getD zeroP).cs
theorem RowN.path {W : World} {y : Addr} {l : List PN} (h : RowN W (some y) l) {i : Nat} {x : PN} (hx : l[i]? = some x) : W.cell? (y.add (i * 16)) = some (.string x.n.path) := by
  have := h.r.at pn_len hx 0 _ rfl
  exact this
theorem RowN.some_ {W : World} {a : Option Addr} {l : List PN} (h : RowN W a l) {i : Nat} {x : PN} (hx : l[i]? = some x) : ∃ y, a = some y := by
  obtain ⟨y, hy, -⟩ := h.r i x hx
  exact ⟨y, hy⟩
theorem find_drop {l : List PN} {p : ByteArray} {i : Nat} {x : PN} (hx : l[i]? = some x) : (l.drop i).find? (fun x => eqs x.n.path p) = if eqs x.n.path p = true then some x else (l.drop (i + 1)).find? (fun x => eqs x.n.path p) := by
  have h1 := List.getElem?_eq_some_iff.1 hx
  rw [List.drop_eq_getElem_cons h1.1, h1.2, List.find?_cons]
  cases eqs x.n.path p <;> rfl

theorem filter_take {α : Type} (f : α → Bool) (l : List α) {i : Nat} {x : α} (h : l[i]? = some x) : (l.take (i + 1)).filter f = (l.take i).filter f ++ (if f x = true then [x] else []) := by
  rw [List.take_add_one, h, List.filter_append]
  congr 1
  simp only [Option.toList]
  rw [List.filter_cons]
  rfl
end Go.Proofs.YtohocomemkckeaaDoor

/-! NODES PUT, AND TOLD BY DIRECTORIES: the document's own Put and Under (donjonref11). -/
namespace Go.Proofs.YtohocomemkckeaaDoor
open Go.RowKit
set_option maxRecDepth 8000
set_option linter.unusedSimpArgs false
set_option linter.unusedVariables false

section
variable {α : Type} {e t : TypeId} {sz : Nat} {f : α → List Value}
/-- append of elements that lie anywhere, or of none. -/
theorem OwnR.append_any {w : World} {base : Nat} {v : Value} {l : List α} (hE : ElemOk e t sz f) (h : OwnR e sz f w base v l) (hb : base ≤ w.heap.size) (a : Option Addr) (m c : Nat) (l2 : List α) (hm : l2.length = m) (h2 : RowAt sz f w a l2) (hn : a = none → c = 0 ∧ m = 0) (hl : l.length < 900000) (hl2 : m < 900000) :
    ∃ v' w', (Builtin.append_ #[t, t] t #[v, .slice a m c]).run Tryd.prog w = .ok v' w' ∧ OwnR e sz f w' base v' (l ++ l2) ∧ Grew w v w' v' := by
  cases a with
  | some y => exact h.append hE hb y m c l2 hm h2 hl hl2
  | none =>
    obtain ⟨rfl, hm0⟩ := hn rfl
    subst hm0
    obtain rfl : l2 = [] := List.eq_nil_of_length_eq_zero hm
    obtain ⟨i, z, b, hi, _⟩ := hE.info
    have ho : w.ownsRow base e sz v l.length (l.flatMap f) := h
    refine ⟨v, w, run_append_owned_none (P := Tryd.prog) (w := w) base t t e i sz hE.und hi v l.length _ ho, by rw [List.append_nil]; exact h, Grew.refl _ _⟩
/-- The first k of a row, and the others. -/
theorem rows_take (hE : ElemOk e t sz f) (ht : Tryd.prog.elem t = e) (a : Option Addr) (n cap k : Nat) (hk : k ≤ n) (hnc : n ≤ cap) :
    ∃ A : Option Addr, (∀ W, (Instr.slice t (.slice a n cap) none (some (.int .i64 (k : Int))) none).run Tryd.prog W = .ok (.slice A k cap) W) ∧ (A = none → a = none) ∧ ∀ W l, RowAt sz f W a l → RowAt sz f W A (l.take k) := by
  obtain ⟨i, z, b, hi, hz, hs, _⟩ := hE.info
  refine ⟨if cap = 0 then a else a.map (·.add 0), fun W => ?_, fun h => ?_, fun W l h j x hx => ?_⟩
  · rw [run_slice_h (P := Tryd.prog) W t a n cap (by rw [ht]; exact hE.und) .i64 (k : Int) (by omega) (by omega), ht]
    simp [sizeOf, typeInfo, hi, hs, sliced]
  · split at h
    · exact h
    · simpa using h
  · have hj : l[j]? = some x := by
      rw [List.getElem?_take] at hx
      split at hx
      · exact hx
      · cases hx
    obtain ⟨y, rfl, hc⟩ := h j x hj
    refine ⟨y, ?_, hc⟩
    split
    · rfl
    · rfl
theorem rows_drop (hE : ElemOk e t sz f) (ht : Tryd.prog.elem t = e) (a : Option Addr) (n cap k : Nat) (hk : k ≤ n) (hnc : n ≤ cap) :
    ∃ A : Option Addr, (∀ W, (Instr.slice t (.slice a n cap) (some (.int .i64 (k : Int))) none none).run Tryd.prog W = .ok (.slice A (n - k) (cap - k)) W) ∧ (A = none → a = none) ∧ ∀ W l, l.length = n → RowAt sz f W a l → RowAt sz f W A (l.drop k) := by
  obtain ⟨i, z, b, hi, hz, hs, _⟩ := hE.info
  refine ⟨if cap = k then a else a.map (·.add (k * sz)), fun W => ?_, fun h => ?_, fun W l hl h j x hx => ?_⟩
  · rw [run_slice_l (P := Tryd.prog) W t a n cap (by rw [ht]; exact hE.und) .i64 (k : Int) (by omega) (by omega), ht]
    simp [sizeOf, typeInfo, hi, hs, sliced]
  · split at h
    · exact h
    · simpa using h
  · rw [List.getElem?_drop] at hx
    have hkj := (List.getElem?_eq_some_iff.1 hx).1
    obtain ⟨y, rfl, hc⟩ := h (k + j) x hx
    rw [if_neg (by omega)]
    refine ⟨_, rfl, fun q hq => ?_⟩
    rw [Addr.add_add, ← Nat.add_assoc, ← Nat.add_mul]
    exact hc q hq
end
theorem tw_take {α : Type} {f : α → Bool} : ∀ (l : List α) (k : Nat), (∀ x ∈ l.take k, f x = true) → (∀ x, l[k]? = some x → f x = false) → l.takeWhile f = l.take k ∧ l.dropWhile f = l.drop k
  | [], k, _, _ => by simp
  | a :: r, 0, _, h => by
    have := h a rfl
    simp [List.takeWhile_cons, List.dropWhile_cons, this]
  | a :: r, k + 1, h1, h2 => by
    have ha := h1 a (by simp)
    obtain ⟨h3, h4⟩ := tw_take r k (fun x hx => h1 x (by simp [hx])) (fun x hx => h2 x (by simpa using hx))
    rw [List.takeWhile_cons, List.dropWhile_cons, ha]
    simp only [if_true, List.take_succ_cons, List.drop_succ_cons]
    rw [h3, h4]
    exact ⟨rfl, rfl⟩
end Go.Proofs.YtohocomemkckeaaDoor

/-! A TEXT OF ONE BYTE, OUT OF A ROW THAT WAS JUST MADE. -/
namespace Go.Proofs.YtohocomemkckeaaDoor
open Go.RowKit
set_option maxRecDepth 8000
set_option linter.unusedSimpArgs false
set_option linter.unusedVariables false

/-- A row of one byte, kept. -/
structure ChrAt (W : World) (pb k : Nat) : Prop where
  lt : pb < W.heap.size
  cell : W.cell? ⟨pb, 0, none⟩ = some (.int .u8 (k : Int))
  hk : k < 256
theorem ChrAt.below {W W' : World} {pb k : Nat} (h : ChrAt W pb k) (b : Below W.heap.size W W') : ChrAt W' pb k := ⟨Nat.lt_of_lt_of_le h.lt b.size, (b.cell (p := ⟨pb, 0, none⟩) h.lt).trans h.cell, h.hk⟩
theorem chr_made (w : World) (k : Nat) (hk : k < 256) : ChrAt (w.alloc (.cells #[.int .u8 (k : Int)] 5)) w.heap.size k := ⟨by simp, by rw [World.cell?_alloc_at _ _ _ _ rfl]; rfl, hk⟩
theorem chr_made2 (w : World) (q : Nat) (hq : 48 + q < 256) : ChrAt (w.alloc (.cells #[.int .u8 (48 + (q : Int))] 5)) w.heap.size (48 + q) := by
  have := chr_made w (48 + q) hq
  rw [Int.natCast_add] at this
  exact this
theorem ChrAt.conv {W : World} {pb k : Nat} (h : ChrAt W pb k) : (convert 44 9 (.slice (some ⟨pb, 0, none⟩) 1 1)).run Tryd.prog W = .ok (.string (chr k)) W := by
  refine run_convert_bytes_back _ _ _ 5 ⟨pb, 0, none⟩ 1 [UInt8.ofNat k] Tryd.underlying44 Tryd.underlying5 Tryd.underlying9 fun j hj => ?_
  obtain rfl : j = 0 := by simp at hj; omega
  rw [show (⟨pb, 0, none⟩ : Addr).add 0 = ⟨pb, 0, none⟩ by simp [Addr.add], h.cell]
  have := h.hk
  simp
  omega
end Go.Proofs.YtohocomemkckeaaDoor

/-! THE FIRST NODES: the document's own First (donjonref11). Written by mk_tfirst.py. -/
namespace Go.Proofs.YtohocomemkckeaaDoor
open Go.RowKit
set_option maxRecDepth 8000
set_option linter.unusedSimpArgs false
set_option linter.unusedVariables false

def lrow (l : Lab) : List Value := [.int .i64 l.s, .int .i64 l.c, .int .i64 l.i, .int .i64 l.k]
theorem lab_ok : ElemOk 23 57 4 lrow :=
  ⟨Tryd.underlying57, by
    obtain ⟨i, h1, h2, h3, h4⟩ := info_of (e := 23) (z := .agg #[.int .i64 0, .int .i64 0, .int .i64 0, .int .i64 0]) (sz := 4) (b := 32) (by kernel_rfl)
    exact ⟨i, _, _, h1, h2, h3, h4, rfl, by omega⟩, by omega, fun _ => rfl, fun x u hu => by simp [lrow] at hu; rcases hu with rfl | rfl | rfl | rfl <;> rfl⟩
section
variable {ops : Array Oper} {o : Oper} {a : Act} {w : World} {Q : Exit → Act → World → Prop} {S : World → Prop}
/-- A load of one cell, in a region that draws. -/
theorem yields_cell {T : TypeId} (hw : Region.wanted o (yielded ops a.tmps) = true) (x : Operand) (ho : o.op = .load T x) (y : Addr) (hx : a.eval x = .pointer (some y)) (v : Value) (hS : ∀ w, S w → w.cell? y = some v) (hl : ∀ w y v, w.cell? y = some v → (Instr.loadAt T (.pointer (some y))).run Tryd.prog w = .ok v w) : YieldsIf Tryd.prog ops S o v a :=
  .inl ⟨hw, fun w hw' => by
    unfold execOp
    simp only [ho, hx, Sem.run_bind, hl w y v (hS w hw'), Result.andThen_ok]
    rfl⟩
theorem step_conv {t u : TypeId} {K : Act → World → Prop} {E : Prop} {v r : Value} (hg : o.guard = none) (x : Operand) (ho : o.op = .convert t u x) (hx : a.eval x = v) (hr : (convert t u v).run Tryd.prog w = .ok r w) (hK : K (a.put o.dst r) w) :
    if Region.wanted o (yielded ops a.tmps) = true then Oper.wp Tryd.prog o a w K Q else E := by
  have hw : Region.wanted o (yielded ops a.tmps) = true := by simp [Region.wanted, hg]
  rw [if_pos hw]
  unfold Oper.wp execOp
  simp only [ho, hx, Sem.run_bind, hr, Result.andThen_ok]
  exact hK
end
theorem slab_load (w : World) (y : Addr) (v : Value) (h : w.cell? y = some v) : (Instr.loadAt 57 (.pointer (some y))).run Tryd.prog w = .ok v w := by
  simp [go_sem, h]
def firstP (ts : List Lab) (i : Nat) (ag : Option Addr) : List PN := (firstTo ts i).map fun n => ⟨n, ag, 1, none, 0⟩
theorem firstP_len (ts : List Lab) (i : Nat) (ag : Option Addr) : (firstP ts i ag).length = (distTo ts i).length + 1 := by simp [firstP, firstTo]
theorem firstP_names (ts : List Lab) (i : Nat) (ag : Option Addr) : namesP (firstP ts i ag) = firstTo ts i := by
  unfold namesP firstP
  rw [List.map_map]
  exact List.map_id' _
theorem firstP_succ (ts : List Lab) (i : Nat) (ag : Option Addr) : firstP ts (i + 1) ag = if (ts.take i).any (fun t => labEq t (ts.getD i bottomL)) = true then firstP ts i ag else firstP ts i ag ++ [⟨dirN (distTo ts i).length (ts.getD i bottomL), ag, 1, none, 0⟩] := by
  unfold firstP
  rw [first_succ]
  split
  · rfl
  · simp
theorem dist_succ (ts : List Lab) (i : Nat) : (distTo ts (i + 1)).length = if (ts.take i).any (fun t => labEq t (ts.getD i bottomL)) = true then (distTo ts i).length else (distTo ts i).length + 1 := by
  rw [distTo]
  split <;> simp
theorem l_path (q : Nat) : (⟨#[47, 108]⟩ : ByteArray) ++ chr (48 + q) = ⟨#[47, 108, UInt8.ofNat (48 + q)]⟩ := by
  apply bytes_inj
  rw [bytes_append]
  rfl
theorem dir_cs (w : World) (q : Nat) (tt : Lab) : (PN.cs ⟨dirN q tt, some ⟨w.heap.size + 1, 0, none⟩, 1, none, 0⟩) = [.string (⟨#[47, 108]⟩ ++ chr (48 + q)), .bool true, .int .i64 tt.s, .int .i64 tt.c, .int .i64 tt.i, .int .i64 tt.k, .slice (some ⟨w.heap.size + 1, 0, none⟩) 1 1, .int .i64 0, .int .i64 0, .int .i64 0, .int .i64 0, .slice none 0 0, .int .i64 bottomL.s, .int .i64 bottomL.c, .int .i64 bottomL.i, .int .i64 bottomL.k] := by
  rw [l_path]
  rfl
theorem any_take {ts : List Lab} {j : Nat} {t : Lab} (h : ts[j]? = some t) (f : Lab → Bool) : (ts.take (j + 1)).any f = ((ts.take j).any f || f t) := by
  rw [List.take_add_one, h]
  simp
/-- Where First stands: the config's box, the list for all. -/
structure FsZ (w W : World) (ta : Option Addr) (n ct : Nat) : Prop where
  box : W.cell? ⟨w.heap.size, 0, none⟩ = some (.slice ta n ct)
  all : GrsAt W (some ⟨w.heap.size + 1, 0, none⟩) allG
  bl : Below w.heap.size w W
  sz : w.heap.size + 2 ≤ W.heap.size
section
variable {w W W' : World} {ta : Option Addr} {n ct : Nat}
theorem FsZ.grown (h : FsZ w W ta n ct) (b : Below (w.heap.size + 2) W W') : FsZ w W' ta n ct := by
  refine ⟨(b.cell (p := ⟨w.heap.size, 0, none⟩) (by show w.heap.size < w.heap.size + 2; omega)).trans h.box, fun j q hq => ?_, h.bl.trans (b.mono (by omega)), Nat.le_trans h.sz b.size⟩
  obtain ⟨y, hy, h1, h2⟩ := h.all j q hq
  obtain rfl := Option.some.inj hy
  have hb : ((⟨w.heap.size + 1, 0, none⟩ : Addr).add (j * 2)).block < w.heap.size + 2 := by rw [add_at]; show w.heap.size + 1 < _; omega
  exact ⟨_, rfl, (b.cell hb).trans h1, (b.cell (p := ⟨_, _, none⟩) hb).trans h2⟩
theorem FsZ.then (h : FsZ w W ta n ct) (b : Below W.heap.size W W') : FsZ w W' ta n ct := h.grown (b.mono h.sz)
theorem FsZ.lab {y : Addr} {ts : List Lab} (h : FsZ w W (some y) n ct) (hl : RowAt 4 lrow w (some y) ts) {j : Nat} {t : Lab} (ht : ts[j]? = some t) : CellsAt W (y.add (j * 4)) [.int .i64 t.s, .int .i64 t.c, .int .i64 t.i, .int .i64 t.k] := (hl.below lab_ok.len h.bl).at lab_ok.len ht
end
end Go.Proofs.YtohocomemkckeaaDoor

/-! PARTS OF A STRUCT'S BLOCK, stored whole: what the block holds then. For every stage from the eleventh on. -/
namespace Go.Proofs.YtohocomemkckeaaDoor
open Go.RowKit
set_option maxRecDepth 8000
set_option linter.unusedSimpArgs false
set_option linter.unusedVariables false

def setM : List Value → Nat → List Value → List Value
  | cs, _, [] => cs
  | cs, k, v :: r => setM (cs.set k v) (k + 1) r
theorem setM_len : ∀ (vs : List Value) (cs : List Value) (k : Nat), (setM cs k vs).length = cs.length
  | [], _, _ => rfl
  | v :: r, cs, k => by rw [setM, setM_len r, List.length_set]
theorem Blk.putM : ∀ (vs : List Value) {W : World} {b : Nat} {cs : List Value} (k : Nat), Blk W b cs → k + vs.length ≤ cs.length → Blk (W.setCells b k vs) b (setM cs k vs)
  | [], _, _, _, _, h, _ => h
  | v :: r, W, b, cs, k, h, hl => by
    simp at hl
    exact Blk.putM r (k + 1) (h.set k v (by omega)) (by simp; omega)
theorem Blk.thereM {W : World} {b : Nat} {cs : List Value} (h : Blk W b cs) (k m : Nat) (hl : k + m ≤ cs.length) : W.there b k m := fun j hj => by
  have := h (k + j) cs[k + j] (List.getElem?_eq_getElem (by omega))
  exact ⟨by rw [this.1]; rfl, this.2⟩
/-- A part of a struct's block is stored: the block, and what lies elsewhere. -/
theorem put_mid {W : World} {b : Nat} {cs : List Value} (h : BlkL b cs W) (k : Nat) (vs : List Value) (hl : k + vs.length ≤ cs.length) (hp : 0 < cs.length) {Z : World} (hb : Below Z.heap.size Z W) (hz : Z.heap.size ≤ b) :
    ∃ W', W.setCells b k vs = W' ∧ W.there b k vs.length ∧ BlkL b (setM cs k vs) W' ∧ Below Z.heap.size Z W' := by
  have h1 := Blk.putM vs k h.1 hl
  refine ⟨_, rfl, h.1.thereM k vs.length hl, ⟨h1, ?_⟩, Below.cells hz vs k hb⟩
  have hl2 : 0 < (setM cs k vs).length := by rw [setM_len]; exact hp
  exact h1.lt (List.getElem?_eq_getElem hl2)
theorem OwnR.mid {α : Type} {e : TypeId} {sz : Nat} {f : α → List Value} {w : World} {base g : Nat} {v : Value} {l : List α} (h : OwnR e sz f w base v l) (hg : v.ownBlock ≠ some g) (o : Nat) (vs : List Value) : OwnR e sz f (w.setCells g o vs) base v l :=
  h.keep fun k hk => heap_setCells_other (fun q => hg (by rw [hk, q])) vs o w
section
variable {ops : Array Oper} {rest : List Oper} {o : Oper} {a : Act} {w W : World} {Q : Exit → Act → World → Prop} {T : TypeId}
theorem wpList_store_part (hg : o.guard = none) (x y : Operand) (ho : o.op = .store T x y) (b k : Nat) (hx : a.eval x = .pointer (some ⟨b, k, none⟩)) (cs : List Value) (hy : a.eval y = .agg cs.toArray)
    (ht : w.there b k cs.length) (hi : (Tryd.prog.info? T).map (·.size) = some cs.length) (h1 : ∀ v ∈ cs, v.oneCell' = true) (hW : w.setCells b k cs = W)
    (h : wpList Tryd.prog ops Q rest (a.put o.dst undef) W) : wpList Tryd.prog ops Q (o :: rest) a w :=
  wpList_store_mid hg T x y ho b k cs.toArray hx hy ht hi (all_oneCell_toArray h1) (hW ▸ h)
theorem step_store_part {K : Act → World → Prop} {E : Prop} (hg : o.guard = none) (x y : Operand) (ho : o.op = .store T x y) (b k : Nat) (hx : a.eval x = .pointer (some ⟨b, k, none⟩)) (cs : List Value) (hy : a.eval y = .agg cs.toArray)
    (ht : w.there b k cs.length) (hi : (Tryd.prog.info? T).map (·.size) = some cs.length) (h1 : ∀ v ∈ cs, v.oneCell' = true) (hW : w.setCells b k cs = W) (hK : K (a.put o.dst undef) W) :
    if Region.wanted o (yielded ops a.tmps) = true then Oper.wp Tryd.prog o a w K Q else E := by
  have hw : Region.wanted o (yielded ops a.tmps) = true := by simp [Region.wanted, hg]
  rw [if_pos hw]
  exact wp_store_mid T x y ho b k cs.toArray hx hy ht hi (all_oneCell_toArray h1) (hW ▸ hK)
end
end Go.Proofs.YtohocomemkckeaaDoor

/-! LABELS IN BLOCKS OF THE LAW'S OWN, turned where they lie. For every stage from the twelfth on. -/
namespace Go.Proofs.YtohocomemkckeaaDoor
open Go.RowKit
set_option maxRecDepth 8000
set_option linter.unusedSimpArgs false
set_option linter.unusedVariables false

abbrev lab4 (t : Lab) : List Value := [.int .i64 t.s, .int .i64 t.c, .int .i64 t.i, .int .i64 t.k]
theorem lab4_one (t : Lab) : ∀ v ∈ lab4 t, v.oneCell' = true := by
  intro v hv
  simp only [List.mem_cons, List.not_mem_nil, or_false] at hv
  rcases hv with rfl | rfl | rfl | rfl <;> rfl
theorem size_setCells (b : Nat) : ∀ (vs : List Value) (o : Nat) (w : World), (w.setCells b o vs).heap.size = w.heap.size
  | [], _, _ => rfl
  | v :: r, o, w => by
    show ((w.setCell ⟨b, o, none⟩ v).setCells b (o + 1) r).heap.size = _
    rw [size_setCells b r (o + 1)]
    simp
/-- Another block, behind a store. -/
theorem BlkL.other {g b o : Nat} {cs vs : List Value} {W W' : World} (h : BlkL g cs W) (hw : W.setCells b o vs = W') (hne : g ≠ b) : BlkL g cs W' := by
  subst hw
  exact ⟨h.1.same (heap_setCells_other hne vs o W), by rw [size_setCells]; exact h.2⟩
section
variable {ops : Array Oper} {o : Oper} {a : Act} {w : World} {Q : Exit → Act → World → Prop} {T : TypeId} {d : TypeDesc}
theorem step_load_row {K : Act → World → Prop} {E : Prop} (hg : o.guard = none) (x : Operand) (ho : o.op = .load T x) (b : Nat) (hx : a.eval x = .pointer (some ⟨b, 0, none⟩)) (cs : List Value) (hc : w.rangeAt b 0 cs)
    (hu : Tryd.prog.underlying T = some d) (hd : d.isRow = true) (hi : (Tryd.prog.info? T).map (·.size) = some cs.length) (hK : K (a.put o.dst (.agg cs.toArray)) w) :
    if Region.wanted o (yielded ops a.tmps) = true then Oper.wp Tryd.prog o a w K Q else E := by
  have hw : Region.wanted o (yielded ops a.tmps) = true := by simp [Region.wanted, hg]
  rw [if_pos hw]
  exact wp_load_mid T x ho b 0 hx cs d hc hu hd hi hK
end
end Go.Proofs.YtohocomemkckeaaDoor
