/-
  PART 1 of what the claims of this seat lean on: Common Labs Rgs IsaPure LRing Ieee Near Base More Max Ops ToInt CpuPure CpuFacts Grew Rws Blk Whole LoadAny Held Mids IsaBits IsaRef IsaOk CpuMem Ref.
-/
import Derived.Test.YtinibccphecdfaaProg
import Derived.WalkKit
import Derived.WalkLawsBesides
import Derived.Laws.AppendOwn
import Derived.Laws.OwnMore
import Derived.KernelRfl
import Derived.ProofKit
import Derived.Below
import Derived.Deep.RegionHeld
import Derived.Lib.ItoaLen
import GoSem.Core.Float
import Derived.Laws.FloatBits
import Derived.Deep.Draws
import Derived.Lib.AppendStr
import Derived.Deep.MidRow
import Derived.Deep.CutBlock
namespace Go.Proofs.Ytinibccphecdfaa
theorem gA {α : Type} {xs : List α} {i : Nat} : xs.toArray[i]? = xs[i]? := List.getElem?_toArray
theorem gB {α : Type} {a : α} {l : List α} : (a :: l)[0]? = some a := List.getElem?_cons_zero
theorem gC {α : Type} {a : α} {l : List α} {i : Nat} : (a :: l)[i + 1]? = l[i]? := List.getElem?_cons_succ
theorem sA {α : Type} {xs : List α} {i : Nat} {a : α} : xs.toArray.setIfInBounds i a = (xs.set i a).toArray := List.setIfInBounds_toArray xs i a
theorem sB {α : Type} {a b : α} {l : List α} : (a :: l).set 0 b = b :: l := List.set_cons_zero
theorem sC {α : Type} {a b : α} {l : List α} {i : Nat} : (a :: l).set (i + 1) b = a :: l.set i b := List.set_cons_succ
end Go.Proofs.Ytinibccphecdfaa
/-! SMALL THINGS THAT EVERY STAGE'S TEXTS SHARE: worlds one behind the other, hypotheses laid aside, an operation by its run. -/
namespace Go.Proofs.Ytinibccphecdfaa
open Go.RowKit
set_option maxRecDepth 8000
set_option linter.unusedSimpArgs false
set_option linter.unusedVariables false

theorem Below.then {w W W' : World} (h : Below w.heap.size w W) (k : Below W.heap.size W W') : Below w.heap.size w W' := h.trans (k.mono h.size)
def Aside (p : Prop) : Prop := p
theorem Aside.out {p : Prop} (h : Aside p) : p := h
theorem add_at (g j : Nat) : (⟨g, 0, none⟩ : Addr).add j = ⟨g, j, none⟩ := by
  simp [Addr.add]
  exact fun h => h.symm
theorem add_off (y : Addr) (m i : Nat) (h : i ≠ 0) : y.add (m + i) = ⟨(y.add m).block, (y.add m).off + i, none⟩ := by
  unfold Addr.add
  by_cases hm : m = 0
  · simp [hm, h]
  · rw [if_neg (by omega), if_neg hm]
    simp [Nat.add_assoc]
section
variable {ops : Array Oper} {rest : List Oper} {o : Oper} {a : Act} {w : World} {Q : Exit → Act → World → Prop}
theorem wpList_value {P : Program} (hg : o.guard = none) {v : Value} {w' : World} (hx : (execOp a.eval o).run P w = .ok (.value v) w') (h : wpList P ops Q rest (a.put o.dst v) w') : wpList P ops Q (o :: rest) a w :=
  wpList_plain hg fun _ hK => by
    unfold Oper.wp
    rw [hx]
    exact hK _ _ h
end
end Go.Proofs.Ytinibccphecdfaa

/-! LABELS, FOR THE STAGES BEHIND THE FOURTH: their numbers, package label's functions and the document's own (donjonref4), as far as the program has them; the lattice in plain words. -/
namespace Go.Proofs.Ytinibccphecdfaa
open Go.RowKit
set_option maxRecDepth 8000
set_option linter.unusedSimpArgs false
set_option linter.unusedVariables false

theorem alloc_below (w : World) (o : Obj) : Below w.heap.size w (w.alloc o) := (Below.refl _ _).alloc (Nat.le_refl _) _
/-- A label's four numbers; its value. -/
structure Lab where
  s : Int
  c : Int
  i : Int
  k : Int
abbrev Lab.v (l : Lab) : Value := .agg #[.int .i64 l.s, .int .i64 l.c, .int .i64 l.i, .int .i64 l.k]
def gmax (a b : Int) : Int := if b > a then b else a
def gmin (a b : Int) : Int := if b < a then b else a
def joinL (a b : Lab) : Lab := ⟨gmax a.s b.s, bits .or .i64 a.c b.c, gmin a.i b.i, bits .and .i64 a.k b.k⟩
def meetL (a b : Lab) : Lab := ⟨gmin a.s b.s, bits .and .i64 a.c b.c, gmax a.i b.i, bits .or .i64 a.k b.k⟩
def goodL (l : Lab) : Lab := ⟨l.s % 4, l.c % 256, l.i % 4, l.k % 256⟩
def bottomL : Lab := ⟨0, 0, 3, 255⟩

theorem below3 (w : World) (a b c : Obj) : Below w.heap.size w (((w.alloc a).alloc b).alloc c) :=
  (((Below.refl _ _).alloc (Nat.le_refl _) _).alloc (by simp) _).alloc (by simp; omega) _




def lessL (a b : Lab) : Bool := if (a.s != b.s) = true then decide (a.s < b.s) else if (a.c != b.c) = true then decide (a.c < b.c) else if (a.i != b.i) = true then decide (a.i < b.i) else decide (a.k < b.k)
theorem below2 (w : World) (a b : Obj) : Below w.heap.size w ((w.alloc a).alloc b) := ((Below.refl _ _).alloc (Nat.le_refl _) _).alloc (by simp) _


/-- Labels as structs are compared field by field. -/
def labEq (x y : Lab) : Bool := x.s == y.s && (x.c == y.c && (x.i == y.i && x.k == y.k))
theorem labEq_iff (x y : Lab) : labEq x y = true ↔ x = y := by
  cases x; cases y; simp [labEq]
/-- A label in a block of its own. -/
abbrev Boxed (W : World) (g : Nat) (l : Lab) : Prop := W.cell? ⟨g, 0, none⟩ = some (.int .i64 l.s) ∧ W.cell? ⟨g, 1, none⟩ = some (.int .i64 l.c) ∧ W.cell? ⟨g, 2, none⟩ = some (.int .i64 l.i) ∧ W.cell? ⟨g, 3, none⟩ = some (.int .i64 l.k)
theorem Boxed.keep {W W' : World} {g : Nat} {l : Lab} (h : Boxed W g l) (hb : Below W.heap.size W W') : Boxed W' g l := by
  obtain ⟨a, b, c, d⟩ := h
  have hg := World.block_lt_of_cell? _ _ a
  exact ⟨(hb.cell (p := ⟨g, 0, none⟩) hg).trans a, (hb.cell (p := ⟨g, 1, none⟩) hg).trans b, (hb.cell (p := ⟨g, 2, none⟩) hg).trans c, (hb.cell (p := ⟨g, 3, none⟩) hg).trans d⟩
theorem keep2 {W W' : World} {g g' : Nat} {l l' : Lab} (hb : Below W.heap.size W W') (h : Boxed W g l ∧ Boxed W g' l') : Boxed W' g l ∧ Boxed W' g' l' := ⟨h.1.keep hb, h.2.keep hb⟩
def inB (n m : Int) : Bool := decide (0 ≤ n) && decide (n ≤ m)



def okL (l : Lab) : Bool := inB l.s 3 && inB l.c 255 && inB l.i 3 && inB l.k 255
def chkL (l : Lab) : Int := if okL l = true then 0 else 1
theorem ofInt_nat (a : Nat) (h : a < 9223372036854775808) : (BitVec.ofInt 64 (a : Int)).toNat = a := by
  rw [BitVec.ofInt_natCast, BitVec.toNat_ofNat]; exact Nat.mod_eq_of_lt (by omega)
theorem wrap_small (a : Nat) (h : a < 9223372036854775808) : IntKind.i64.wrap (a : Int) = (a : Int) := by
  rw [IntKind.wrap_i64]; omega
theorem bor (a b : Nat) (ha : a < 256) (hb : b < 256) : bits .or .i64 (a : Int) (b : Int) = ((a ||| b : Nat) : Int) := by
  have hx : a ||| b < 2 ^ 8 := Nat.or_lt_two_pow (by omega) (by omega)
  show IntKind.i64.wrap ((BitVec.ofInt 64 (a : Int) ||| BitVec.ofInt 64 (b : Int)).toNat : Int) = _
  rw [BitVec.toNat_or, ofInt_nat a (by omega), ofInt_nat b (by omega), wrap_small _ (by omega)]
theorem band (a b : Nat) (ha : a < 256) (hb : b < 256) : bits .and .i64 (a : Int) (b : Int) = ((a &&& b : Nat) : Int) := by
  have hx : a &&& b < 2 ^ 8 := Nat.and_lt_two_pow a (by omega)
  show IntKind.i64.wrap ((BitVec.ofInt 64 (a : Int) &&& BitVec.ofInt 64 (b : Int)).toNat : Int) = _
  rw [BitVec.toNat_and, ofInt_nat a (by omega), ofInt_nat b (by omega), wrap_small _ (by omega)]

/-- A label that may be. -/
structure GL (l : Lab) : Prop where
  s0 : 0 ≤ l.s
  s1 : l.s ≤ 3
  c0 : 0 ≤ l.c
  c1 : l.c ≤ 255
  i0 : 0 ≤ l.i
  i1 : l.i ≤ 3
  k0 : 0 ≤ l.k
  k1 : l.k ≤ 255
theorem good_GL (l : Lab) : GL (goodL l) := by
  constructor <;> simp only [goodL] <;> omega
theorem bottom_GL : GL bottomL := by constructor <;> decide
/-- Its numbers as natural ones. -/
theorem GL.nat {l : Lab} (h : GL l) : ∃ s c i k : Nat, l = ⟨s, c, i, k⟩ ∧ s < 4 ∧ c < 256 ∧ i < 4 ∧ k < 256 := by
  obtain ⟨a, b, c, d, e, f, g, i⟩ := h
  obtain ⟨s, hs⟩ := Int.eq_ofNat_of_zero_le a
  obtain ⟨c', hc⟩ := Int.eq_ofNat_of_zero_le c
  obtain ⟨i', hi⟩ := Int.eq_ofNat_of_zero_le e
  obtain ⟨k', hk⟩ := Int.eq_ofNat_of_zero_le g
  refine ⟨s, c', i', k', ?_, by omega, by omega, by omega, by omega⟩
  cases l
  simp_all

/-- Join and meet of natural numbers. -/
structure NL where
  s : Nat
  c : Nat
  i : Nat
  k : Nat
def NL.lab (l : NL) : Lab := ⟨l.s, l.c, l.i, l.k⟩
def NL.ok (l : NL) : Prop := l.s < 4 ∧ l.c < 256 ∧ l.i < 4 ∧ l.k < 256
def NL.join (a b : NL) : NL := ⟨max a.s b.s, a.c ||| b.c, min a.i b.i, a.k &&& b.k⟩
def NL.meet (a b : NL) : NL := ⟨min a.s b.s, a.c &&& b.c, max a.i b.i, a.k ||| b.k⟩
def NL.bot : NL := ⟨0, 0, 3, 255⟩
theorem bot_lab : NL.bot.lab = bottomL := rfl
theorem bot_ok : NL.bot.ok := by simp [NL.bot, NL.ok]
theorem GL.nl {l : Lab} (h : GL l) : ∃ n : NL, l = n.lab ∧ n.ok :=
  let ⟨s, c, i, k, e, h1, h2, h3, h4⟩ := h.nat
  ⟨⟨s, c, i, k⟩, e, h1, h2, h3, h4⟩
theorem gmax_nat (a b : Nat) : gmax (a : Int) (b : Int) = ((max a b : Nat) : Int) := by unfold gmax; split <;> omega
theorem gmin_nat (a b : Nat) : gmin (a : Int) (b : Int) = ((min a b : Nat) : Int) := by unfold gmin; split <;> omega
theorem join_lab {a b : NL} (ha : a.ok) (hb : b.ok) : joinL a.lab b.lab = (a.join b).lab := by
  simp only [joinL, NL.lab, NL.join, gmax_nat, gmin_nat, bor _ _ ha.2.1 hb.2.1, band _ _ ha.2.2.2 hb.2.2.2]
theorem meet_lab {a b : NL} (ha : a.ok) (hb : b.ok) : meetL a.lab b.lab = (a.meet b).lab := by
  simp only [meetL, NL.lab, NL.meet, gmax_nat, gmin_nat, bor _ _ ha.2.2.2 hb.2.2.2, band _ _ ha.2.1 hb.2.1]
theorem lab_inj {a b : NL} : a.lab = b.lab ↔ a = b := by
  cases a; cases b; simp only [NL.lab, Lab.mk.injEq, NL.mk.injEq]; omega
theorem join_ok {a b : NL} (ha : a.ok) (hb : b.ok) : (a.join b).ok := by
  obtain ⟨a1, a2, a3, a4⟩ := ha
  obtain ⟨b1, b2, b3, b4⟩ := hb
  refine ⟨by simp only [NL.join]; omega, Nat.or_lt_two_pow (n := 8) a2 b2, by simp only [NL.join]; omega, Nat.and_lt_two_pow (n := 8) _ b4⟩
theorem meet_ok {a b : NL} (ha : a.ok) (hb : b.ok) : (a.meet b).ok := by
  obtain ⟨a1, a2, a3, a4⟩ := ha
  obtain ⟨b1, b2, b3, b4⟩ := hb
  refine ⟨by simp only [NL.meet]; omega, Nat.and_lt_two_pow (n := 8) _ b2, by simp only [NL.meet]; omega, Nat.or_lt_two_pow (n := 8) a4 b4⟩
theorem lab_GL {a : NL} (h : a.ok) : GL a.lab := by
  obtain ⟨a1, a2, a3, a4⟩ := h
  constructor <;> simp only [NL.lab] <;> omega
/-- a is over b. -/
def NL.over (a b : NL) : Prop := a.join b = a
theorem over_iff {a b : NL} : a.over b ↔ b.s ≤ a.s ∧ a.c ||| b.c = a.c ∧ a.i ≤ b.i ∧ a.k &&& b.k = a.k := by
  cases a; cases b; simp only [NL.over, NL.join, NL.mk.injEq]; omega
theorem or_and (a b : Nat) : a ||| b = a ↔ a &&& b = b := by
  constructor
  · intro h; rw [← h]; apply Nat.eq_of_testBit_eq; intro i; cases ha : a.testBit i <;> cases hb : b.testBit i <;> simp [ha, hb]
  · intro h; rw [← h]; apply Nat.eq_of_testBit_eq; intro i; cases ha : a.testBit i <;> cases hb : b.testBit i <;> simp [ha, hb]
theorem join_comm (a b : NL) : a.join b = b.join a := by simp only [NL.join, NL.mk.injEq]; exact ⟨Nat.max_comm _ _, Nat.or_comm _ _, Nat.min_comm _ _, Nat.and_comm _ _⟩
theorem meet_comm (a b : NL) : a.meet b = b.meet a := by simp only [NL.meet, NL.mk.injEq]; exact ⟨Nat.min_comm _ _, Nat.and_comm _ _, Nat.max_comm _ _, Nat.or_comm _ _⟩
theorem join_assoc (a b c : NL) : (a.join b).join c = a.join (b.join c) := by simp only [NL.join, NL.mk.injEq]; exact ⟨Nat.max_assoc _ _ _, Nat.or_assoc _ _ _, Nat.min_assoc _ _ _, Nat.and_assoc _ _ _⟩
theorem meet_assoc (a b c : NL) : (a.meet b).meet c = a.meet (b.meet c) := by simp only [NL.meet, NL.mk.injEq]; exact ⟨Nat.min_assoc _ _ _, Nat.and_assoc _ _ _, Nat.max_assoc _ _ _, Nat.or_assoc _ _ _⟩
theorem join_self (a : NL) : a.join a = a := by cases a; simp [NL.join]
theorem meet_self (a : NL) : a.meet a = a := by cases a; simp [NL.meet]
theorem over_refl (a : NL) : a.over a := join_self a
theorem over_antisymm {a b : NL} (h : a.over b) (k : b.over a) : a = b := by rw [← h, join_comm]; exact k
theorem over_trans {a b c : NL} (h : a.over b) (k : b.over c) : a.over c := by
  unfold NL.over at *; rw [← h, join_assoc, k]
theorem and_255 {a : Nat} (h : a < 256) : a &&& 255 = a := by
  rw [show 255 = 2 ^ 8 - 1 from rfl, Nat.and_two_pow_sub_one_eq_mod]; exact Nat.mod_eq_of_lt h
theorem or_255 {a : Nat} (h : a < 256) : a ||| 255 = 255 := by
  rw [Nat.or_comm, (or_and 255 a)]; rw [Nat.and_comm]; exact and_255 h
theorem over_bot {a : NL} (h : a.ok) : a.over NL.bot := by
  obtain ⟨a1, a2, a3, a4⟩ := h
  refine over_iff.2 ⟨Nat.zero_le _, by simp [NL.bot], by simp only [NL.bot]; omega, and_255 a4⟩
theorem meet_bot {a : NL} (h : a.ok) : a.meet NL.bot = NL.bot := by
  obtain ⟨a1, a2, a3, a4⟩ := h
  cases a
  simp only [NL.meet, NL.bot, NL.mk.injEq] at *
  exact ⟨by omega, by simp, by omega, or_255 a4⟩
theorem join_meet (a b : NL) : a.join (a.meet b) = a := by
  cases a; cases b
  simp only [NL.join, NL.meet, NL.mk.injEq]
  refine ⟨by omega, ?_, by omega, ?_⟩ <;> apply Nat.eq_of_testBit_eq <;> intro i <;> simp <;> intro h <;> simp [h]
theorem meet_join (a b : NL) : a.meet (a.join b) = a := by
  cases a; cases b
  simp only [NL.join, NL.meet, NL.mk.injEq]
  refine ⟨by omega, ?_, by omega, ?_⟩ <;> apply Nat.eq_of_testBit_eq <;> intro i <;> simp <;> intro h <;> simp [h]
theorem over_meet {a b : NL} : a.over b ↔ a.meet b = b := by
  cases a; cases b
  simp only [NL.over, NL.join, NL.meet, NL.mk.injEq]
  rw [or_and]
  have := or_and
  constructor
  · rintro ⟨h1, h2, h3, h4⟩; exact ⟨by omega, h2, by omega, by rw [Nat.or_comm, or_and, Nat.and_comm]; exact h4⟩
  · rintro ⟨h1, h2, h3, h4⟩; exact ⟨by omega, h2, by omega, by rw [Nat.or_comm, or_and, Nat.and_comm] at h4; exact h4⟩
/-- What the program's Over tells. -/
def ov (a b : Lab) : Bool := labEq (joinL a b) a
theorem ov_iff {a b : NL} (ha : a.ok) (hb : b.ok) : ov a.lab b.lab = true ↔ a.over b := by
  unfold ov; rw [labEq_iff, join_lab ha hb, lab_inj]; rfl
/-- The document's Over of four numbers. -/
def rov (a b : Lab) : Bool := decide (a.s ≥ b.s) && (bits .and .i64 a.c b.c == b.c) && decide (a.i ≤ b.i) && (bits .and .i64 a.k b.k == a.k)
def b8 (l : Lab) : List Bool := [decide (l.s < 0), decide (l.s > 3), decide (l.i < 0), decide (l.i > 3), decide (l.c < 0), decide (l.c > 255), decide (l.k < 0), decide (l.k > 255)]
theorem chk_b8 (l : Lab) : chkL l = if (b8 l).any id = true then 1 else 0 := by
  unfold chkL okL inB b8
  simp only [List.any_cons, List.any_nil, id, Bool.or_eq_true, Bool.or_false, decide_eq_true_eq, Bool.and_eq_true]
  split <;> split <;> omega
/-- The document's Over is the program's. -/
theorem rov_ov {A B : NL} (okA : A.ok) (okB : B.ok) : rov A.lab B.lab = ov A.lab B.lab := by
  rw [Bool.eq_iff_iff, ov_iff okA okB, over_iff, or_and]
  unfold rov NL.lab
  simp only [band _ _ okA.2.1 okB.2.1, band _ _ okA.2.2.2 okB.2.2.2, Bool.and_eq_true, decide_eq_true_eq, beq_iff_eq]
  omega
end Go.Proofs.Ytinibccphecdfaa

/-! RINGS, FOR THE STAGES BEHIND THE SIXTH: their numbers, the laws' Good; the laws' own numbers within bounds. -/
namespace Go.Proofs.Ytinibccphecdfaa
open Go.RowKit
set_option maxRecDepth 8000
set_option linter.unusedSimpArgs false
set_option linter.unusedVariables false

/-- A bracket's four numbers; its value. -/
structure Rg where
  a : Int
  b : Int
  c : Int
  g : Int
abbrev Rg.v (x : Rg) : Value := .agg #[.int .i64 x.a, .int .i64 x.b, .int .i64 x.c, .int .i64 x.g]
def mayR (x : Rg) (r : Int) : Bool := decide (0 ≤ r ∧ r ≤ 7 ∧ r ≤ x.b)
def mayW (x : Rg) (r : Int) : Bool := decide (0 ≤ r ∧ r ≤ 7 ∧ r ≤ x.a)
def mayX (x : Rg) (r : Int) : Bool := decide (0 ≤ r ∧ r ≤ 7 ∧ x.a ≤ r ∧ r ≤ x.b)
def isR (r : Int) : Bool := decide (0 ≤ r ∧ r ≤ 7)
def OkR (x : Rg) : Prop := 0 ≤ x.a ∧ x.a ≤ x.b ∧ x.b ≤ x.c ∧ x.c ≤ 7 ∧ 0 ≤ x.g ∧ x.g ≤ 16
def chkR (x : Rg) : Int := if 0 ≤ x.a ∧ x.a ≤ x.b ∧ x.b ≤ x.c ∧ x.c ≤ 7 ∧ 0 ≤ x.g ∧ x.g ≤ 16 then 0 else 1
def goodR (x : Rg) : Rg := ⟨x.a % 8, x.a % 8 + x.b % (8 - x.a % 8), x.a % 8 + x.b % (8 - x.a % 8) + x.c % (8 - (x.a % 8 + x.b % (8 - x.a % 8))), x.g % 17⟩

theorem goodR_ok (x : Rg) : OkR (goodR x) := by
  have h1 := Int.emod_nonneg x.a (by decide : (8 : Int) ≠ 0)
  have h2 := Int.emod_lt_of_pos x.a (by decide : (0 : Int) < 8)
  have h3 := Int.emod_nonneg x.b (by omega : (8 - x.a % 8 : Int) ≠ 0)
  have h4 := Int.emod_lt_of_pos x.b (by omega : (0 : Int) < 8 - x.a % 8)
  have h5 := Int.emod_nonneg x.c (by omega : (8 - (x.a % 8 + x.b % (8 - x.a % 8)) : Int) ≠ 0)
  have h6 := Int.emod_lt_of_pos x.c (by omega : (0 : Int) < 8 - (x.a % 8 + x.b % (8 - x.a % 8)))
  refine ⟨?_, ?_, ?_, ?_, ?_, ?_⟩ <;> simp only [goodR] <;> omega

abbrev RBox (W : World) (g : Nat) (l : Rg) : Prop := W.cell? ⟨g, 0, none⟩ = some (.int .i64 l.a) ∧ W.cell? ⟨g, 1, none⟩ = some (.int .i64 l.b) ∧ W.cell? ⟨g, 2, none⟩ = some (.int .i64 l.c) ∧ W.cell? ⟨g, 3, none⟩ = some (.int .i64 l.g)
set_option maxHeartbeats 400000 in
theorem rgw_any (k m : Int) (h0 : 0 < m) (h1 : m < 1000000) (w : World) :
    Calls Try.prog 49 #[.int .i64 k, .int .i64 m] w fun e w' => e = .returned (.int .i64 (k % m)) ∧ w' = w := by
  have b1 := Int.lt_tmod_of_pos k h0
  have b2 := Int.tmod_lt_of_pos k h0
  have hm0 : ¬ m = 0 := by omega
  have hm1 : ¬ m = -1 := by omega
  by_cases hn : k.tmod m < 0
  · have e1 : k % m = k.tmod m + m := by
      rw [Int.tmod_eq_emod] at hn ⊢
      split at hn
      · have := Int.emod_nonneg k (by omega : m ≠ 0); omega
      · rename_i hc; rw [if_neg hc]; rw [Int.natAbs_of_nonneg (by omega)]; omega
    rw [e1]
    clear e1
    go_enter Try.func49, Try.ntmps49
    go_wp2
    go_ret
    exact ⟨rfl, rfl⟩
  · have e1 : k % m = k.tmod m := by
      rw [Int.tmod_eq_emod] at hn ⊢
      split
      · simp
      · rename_i hc
        rw [if_neg hc] at hn
        have := Int.emod_lt_of_pos k h0
        rw [Int.natAbs_of_nonneg (by omega)] at *
        omega
    rw [e1]
    clear e1
    go_enter Try.func49, Try.ntmps49
    go_wp2
    go_ret
    exact ⟨rfl, rfl⟩
set_option maxHeartbeats 1000000 in
theorem rggood_any (x : Rg) (w : World) :
    Calls Try.prog 30 #[x.v] w fun e w' => e = .returned (goodR x).v ∧ Below w.heap.size w w' := by
  have h1 := Int.emod_nonneg x.a (by decide : (8 : Int) ≠ 0)
  have h2 := Int.emod_lt_of_pos x.a (by decide : (0 : Int) < 8)
  obtain ⟨A, hA⟩ : ∃ A, x.a % 8 = A := ⟨_, rfl⟩
  rw [hA] at h1 h2
  have h3 := Int.emod_nonneg x.b (by omega : (8 - A : Int) ≠ 0)
  have h4 := Int.emod_lt_of_pos x.b (by omega : (0 : Int) < 8 - A)
  obtain ⟨B, hB⟩ : ∃ B, x.b % (8 - A) = B := ⟨_, rfl⟩
  rw [hB] at h3 h4
  have h5 := Int.emod_nonneg x.c (by omega : (8 - (A + B) : Int) ≠ 0)
  have h6 := Int.emod_lt_of_pos x.c (by omega : (0 : Int) < 8 - (A + B))
  obtain ⟨C, hC⟩ : ∃ C, x.c % (8 - (A + B)) = C := ⟨_, rfl⟩
  rw [hC] at h5 h6
  obtain ⟨G, hG⟩ : ∃ G, x.g % 17 = G := ⟨_, rfl⟩
  have e1 : goodR x = ⟨A, A + B, A + B + C, G⟩ := by simp only [goodR, hA, hB, hC, hG]
  rw [e1]
  have c1 := fun W => rgw_any x.a 8 (by decide) (by decide) W
  have c2 := fun W => rgw_any x.b (8 - A) (by omega) (by omega) W
  have c3 := fun W => rgw_any x.c (8 - (A + B)) (by omega) (by omega) W
  have c4 := fun W => rgw_any x.g 17 (by decide) (by decide) W
  rw [hA] at c1
  rw [hB] at c2
  rw [hC] at c3
  rw [hG] at c4
  clear e1 hA hB hC hG
  go_enter Try.func30, Try.ntmps30
  go_wp2_with fail
  refine (c1 _).mono ?_
  rintro e w' ⟨rfl, rfl⟩
  go_wp2_with fail
  have hS0 : RBox ((w.alloc (.cells #[.int .i64 A, .int .i64 x.b, .int .i64 x.c, .int .i64 x.g] 55)).alloc (.cells #[.int .i64 0, .int .i64 0, .int .i64 0, .int .i64 0] 55)) w.heap.size ⟨A, x.b, x.c, x.g⟩ := by refine ⟨?_, ?_, ?_, ?_⟩ <;> simp [World.cell?_alloc_at]
  have q0 := hS0.1
  have hw1 : IntKind.i64.wrap (8 - A) = 8 - A := Go.IntWalk.i64_in _ (by omega)
  have hw2 : IntKind.i64.wrap (A + B) = A + B := Go.IntWalk.i64_in _ (by omega)
  refine wp_region_held_drew (S := (fun W => W.cell? ⟨w.heap.size, 0, none⟩ = some (.int .i64 A))) (by kernel_rfl) (by first | exact q0 | go_keep) ?_
  intro hHeld
  (first | (refine wpAnyH_take (i := 0) (v := ?_) (by simp only [gA, gB, gC]; rfl) (by kernel_rfl) (by kernel_rfl) (by kernel_rfl) (by exact fun _ _ _ h => h) (Or.inl ⟨by rfl, ?_⟩) (by assumption) ?_; rotate_left; (focus (intro w hSw; (try dsimp only at hSw); go_simp; try with_reducible rfl))) | (refine wpAnyH_take (i := 0) (v := undef) (by simp only [gA, gB, gC]; rfl) (by kernel_rfl) (by kernel_rfl) (by kernel_rfl) (by exact fun _ _ _ h => h) (Or.inr ⟨by rfl, rfl⟩) (by assumption) ?_) | fail); simp only [Act.put, sA, sB, sC, hw1, hw2]
  (first | (refine wpAnyH_take (i := 1) (v := ?_) (by simp only [gA, gB, gC]; rfl) (by kernel_rfl) (by kernel_rfl) (by kernel_rfl) (by exact fun _ _ _ h => h) (Or.inl ⟨by rfl, ?_⟩) (by assumption) ?_; rotate_left; (focus (intro w hSw; (try dsimp only at hSw); go_simp; try with_reducible rfl))) | (refine wpAnyH_take (i := 1) (v := undef) (by simp only [gA, gB, gC]; rfl) (by kernel_rfl) (by kernel_rfl) (by kernel_rfl) (by exact fun _ _ _ h => h) (Or.inr ⟨by rfl, rfl⟩) (by assumption) ?_) | fail); simp only [Act.put, sA, sB, sC, hw1, hw2]
  (first | (refine wpAnyH_take (i := 2) (v := ?_) (by simp only [gA, gB, gC]; rfl) (by kernel_rfl) (by kernel_rfl) (by kernel_rfl) (by exact fun _ _ _ h => h) (Or.inl ⟨by rfl, ?_⟩) (by assumption) ?_; rotate_left; (focus (intro w hSw; (try dsimp only at hSw); go_simp; try with_reducible rfl))) | (refine wpAnyH_take (i := 2) (v := undef) (by simp only [gA, gB, gC]; rfl) (by kernel_rfl) (by kernel_rfl) (by kernel_rfl) (by exact fun _ _ _ h => h) (Or.inr ⟨by rfl, rfl⟩) (by assumption) ?_) | fail); simp only [Act.put, sA, sB, sC, hw1, hw2]
  (first | (refine wpAnyH_take (i := 4) (v := ?_) (by simp only [gA, gB, gC]; rfl) (by kernel_rfl) (by kernel_rfl) (by kernel_rfl) (by exact fun _ _ _ h => h) (Or.inl ⟨by rfl, ?_⟩) (by assumption) ?_; rotate_left; (focus (intro w hSw; (try dsimp only at hSw); go_simp; try with_reducible rfl))) | (refine wpAnyH_take (i := 4) (v := undef) (by simp only [gA, gB, gC]; rfl) (by kernel_rfl) (by kernel_rfl) (by kernel_rfl) (by exact fun _ _ _ h => h) (Or.inr ⟨by rfl, rfl⟩) (by assumption) ?_) | fail); simp only [Act.put, sA, sB, sC, hw1, hw2]
  (first | (refine wpAnyH_take (i := 5) (v := ?_) (by simp only [gA, gB, gC]; rfl) (by kernel_rfl) (by kernel_rfl) (by kernel_rfl) (by exact fun _ _ _ h => h) (Or.inl ⟨by rfl, ?_⟩) (by assumption) ?_; rotate_left; (focus (intro w hSw; (try dsimp only at hSw); go_simp; try with_reducible rfl))) | (refine wpAnyH_take (i := 5) (v := undef) (by simp only [gA, gB, gC]; rfl) (by kernel_rfl) (by kernel_rfl) (by kernel_rfl) (by exact fun _ _ _ h => h) (Or.inr ⟨by rfl, rfl⟩) (by assumption) ?_) | fail); simp only [Act.put, sA, sB, sC, hw1, hw2]
  (first | (refine wpAnyH_take (i := 6) (v := ?_) (by simp only [gA, gB, gC]; rfl) (by kernel_rfl) (by kernel_rfl) (by kernel_rfl) (by exact fun _ _ _ h => h) (Or.inl ⟨by rfl, ?_⟩) (by assumption) ?_; rotate_left; (focus (intro w hSw; (try dsimp only at hSw); go_simp; try with_reducible rfl))) | (refine wpAnyH_take (i := 6) (v := undef) (by simp only [gA, gB, gC]; rfl) (by kernel_rfl) (by kernel_rfl) (by kernel_rfl) (by exact fun _ _ _ h => h) (Or.inr ⟨by rfl, rfl⟩) (by assumption) ?_) | fail); simp only [Act.put, sA, sB, sC, hw1, hw2]
  refine wpAnyH_ready (rs := [3]) (by kernel_rfl) (by simp) ?_; refine AllReadyH.cons (by simp only [gA, gB, gC]; rfl) (fun K hK => ?_) AllReadyH.nil; go_simp; refine hK.out _ _ (by first | exact q0 | go_keep) ?_; clear hHeld hK; intro hHeld; (try simp only [Act.put, sA, sB, sC, hw1, hw2])
  first | (refine wpAnyH_take (i := 7) (v := undef) (by simp only [gA, gB, gC]; rfl) (by kernel_rfl) (by kernel_rfl) (by kernel_rfl) (by exact fun _ _ _ h => h) (Or.inr ⟨by rfl, rfl⟩) (by assumption) ?_; simp only [Act.put, sA, sB, sC, hw1, hw2]) | (refine wpAnyH_ready (rs := [7]) (by kernel_rfl) (by simp) ?_; refine AllReadyH.cons (by simp only [gA, gB, gC]; rfl) (fun K hK => ?_) AllReadyH.nil; go_simp; (first | (go_at_call 49; refine (c2 _).mono ?_; rintro e w' ⟨rfl, rfl⟩)); refine hK.out _ _ (by first | exact q0 | go_keep) ?_; clear hHeld hK; intro hHeld; (try simp only [Act.put, sA, sB, sC, hw1, hw2])) | fail
  (first | (refine wpAnyH_take (i := 8) (v := ?_) (by simp only [gA, gB, gC]; rfl) (by kernel_rfl) (by kernel_rfl) (by kernel_rfl) (by exact fun _ _ _ h => h) (Or.inl ⟨by rfl, ?_⟩) (by assumption) ?_; rotate_left; (focus (intro w hSw; (try dsimp only at hSw); go_simp; try with_reducible rfl))) | (refine wpAnyH_take (i := 8) (v := undef) (by simp only [gA, gB, gC]; rfl) (by kernel_rfl) (by kernel_rfl) (by kernel_rfl) (by exact fun _ _ _ h => h) (Or.inr ⟨by rfl, rfl⟩) (by assumption) ?_) | fail); simp only [Act.put, sA, sB, sC, hw1, hw2]
  (first | (refine wpAnyH_take (i := 9) (v := ?_) (by simp only [gA, gB, gC]; rfl) (by kernel_rfl) (by kernel_rfl) (by kernel_rfl) (by exact fun _ _ _ h => h) (Or.inl ⟨by rfl, ?_⟩) (by assumption) ?_; rotate_left; (focus (intro w hSw; (try dsimp only at hSw); go_simp; try with_reducible rfl))) | (refine wpAnyH_take (i := 9) (v := undef) (by simp only [gA, gB, gC]; rfl) (by kernel_rfl) (by kernel_rfl) (by kernel_rfl) (by exact fun _ _ _ h => h) (Or.inr ⟨by rfl, rfl⟩) (by assumption) ?_) | fail); simp only [Act.put, sA, sB, sC, hw1, hw2]
  refine wpAnyH_ready (rs := [10]) (by kernel_rfl) (by simp) ?_; refine AllReadyH.cons (by simp only [gA, gB, gC]; rfl) (fun K hK => ?_) AllReadyH.nil; go_simp; refine hK.out _ _ (by first | exact q0 | go_keep) ?_; clear hHeld hK; intro hHeld; (try simp only [Act.put, sA, sB, sC, hw1, hw2])
  refine wpAnyH_done (by kernel_rfl) ?_ _
  go_wp2_with fail
  have q1 : (((w.alloc (.cells #[.int .i64 A, .int .i64 (A + B), .int .i64 x.c, .int .i64 x.g] 55)).alloc (.cells #[.int .i64 0, .int .i64 0, .int .i64 0, .int .i64 0] 55)).drew).cell? ⟨w.heap.size, 1, none⟩ = some (.int .i64 (A + B)) := by simp [World.cell?_alloc_at]
  have hw3 : IntKind.i64.wrap (8 - (A + B)) = 8 - (A + B) := Go.IntWalk.i64_in _ (by omega)
  have hw4 : IntKind.i64.wrap (A + B + C) = A + B + C := Go.IntWalk.i64_in _ (by omega)
  refine wp_region_held_drew (S := (fun W => W.cell? ⟨w.heap.size, 1, none⟩ = some (.int .i64 (A + B)))) (by kernel_rfl) (by first | exact q1 | go_keep) ?_
  intro hHeld
  (first | (refine wpAnyH_take (i := 0) (v := ?_) (by simp only [gA, gB, gC]; rfl) (by kernel_rfl) (by kernel_rfl) (by kernel_rfl) (by exact fun _ _ _ h => h) (Or.inl ⟨by rfl, ?_⟩) (by assumption) ?_; rotate_left; (focus (intro w hSw; (try dsimp only at hSw); go_simp; try with_reducible rfl))) | (refine wpAnyH_take (i := 0) (v := undef) (by simp only [gA, gB, gC]; rfl) (by kernel_rfl) (by kernel_rfl) (by kernel_rfl) (by exact fun _ _ _ h => h) (Or.inr ⟨by rfl, rfl⟩) (by assumption) ?_) | fail); simp only [Act.put, sA, sB, sC, hw3, hw4]
  (first | (refine wpAnyH_take (i := 1) (v := ?_) (by simp only [gA, gB, gC]; rfl) (by kernel_rfl) (by kernel_rfl) (by kernel_rfl) (by exact fun _ _ _ h => h) (Or.inl ⟨by rfl, ?_⟩) (by assumption) ?_; rotate_left; (focus (intro w hSw; (try dsimp only at hSw); go_simp; try with_reducible rfl))) | (refine wpAnyH_take (i := 1) (v := undef) (by simp only [gA, gB, gC]; rfl) (by kernel_rfl) (by kernel_rfl) (by kernel_rfl) (by exact fun _ _ _ h => h) (Or.inr ⟨by rfl, rfl⟩) (by assumption) ?_) | fail); simp only [Act.put, sA, sB, sC, hw3, hw4]
  (first | (refine wpAnyH_take (i := 2) (v := ?_) (by simp only [gA, gB, gC]; rfl) (by kernel_rfl) (by kernel_rfl) (by kernel_rfl) (by exact fun _ _ _ h => h) (Or.inl ⟨by rfl, ?_⟩) (by assumption) ?_; rotate_left; (focus (intro w hSw; (try dsimp only at hSw); go_simp; try with_reducible rfl))) | (refine wpAnyH_take (i := 2) (v := undef) (by simp only [gA, gB, gC]; rfl) (by kernel_rfl) (by kernel_rfl) (by kernel_rfl) (by exact fun _ _ _ h => h) (Or.inr ⟨by rfl, rfl⟩) (by assumption) ?_) | fail); simp only [Act.put, sA, sB, sC, hw3, hw4]
  (first | (refine wpAnyH_take (i := 4) (v := ?_) (by simp only [gA, gB, gC]; rfl) (by kernel_rfl) (by kernel_rfl) (by kernel_rfl) (by exact fun _ _ _ h => h) (Or.inl ⟨by rfl, ?_⟩) (by assumption) ?_; rotate_left; (focus (intro w hSw; (try dsimp only at hSw); go_simp; try with_reducible rfl))) | (refine wpAnyH_take (i := 4) (v := undef) (by simp only [gA, gB, gC]; rfl) (by kernel_rfl) (by kernel_rfl) (by kernel_rfl) (by exact fun _ _ _ h => h) (Or.inr ⟨by rfl, rfl⟩) (by assumption) ?_) | fail); simp only [Act.put, sA, sB, sC, hw3, hw4]
  (first | (refine wpAnyH_take (i := 5) (v := ?_) (by simp only [gA, gB, gC]; rfl) (by kernel_rfl) (by kernel_rfl) (by kernel_rfl) (by exact fun _ _ _ h => h) (Or.inl ⟨by rfl, ?_⟩) (by assumption) ?_; rotate_left; (focus (intro w hSw; (try dsimp only at hSw); go_simp; try with_reducible rfl))) | (refine wpAnyH_take (i := 5) (v := undef) (by simp only [gA, gB, gC]; rfl) (by kernel_rfl) (by kernel_rfl) (by kernel_rfl) (by exact fun _ _ _ h => h) (Or.inr ⟨by rfl, rfl⟩) (by assumption) ?_) | fail); simp only [Act.put, sA, sB, sC, hw3, hw4]
  (first | (refine wpAnyH_take (i := 6) (v := ?_) (by simp only [gA, gB, gC]; rfl) (by kernel_rfl) (by kernel_rfl) (by kernel_rfl) (by exact fun _ _ _ h => h) (Or.inl ⟨by rfl, ?_⟩) (by assumption) ?_; rotate_left; (focus (intro w hSw; (try dsimp only at hSw); go_simp; try with_reducible rfl))) | (refine wpAnyH_take (i := 6) (v := undef) (by simp only [gA, gB, gC]; rfl) (by kernel_rfl) (by kernel_rfl) (by kernel_rfl) (by exact fun _ _ _ h => h) (Or.inr ⟨by rfl, rfl⟩) (by assumption) ?_) | fail); simp only [Act.put, sA, sB, sC, hw3, hw4]
  refine wpAnyH_ready (rs := [3]) (by kernel_rfl) (by simp) ?_; refine AllReadyH.cons (by simp only [gA, gB, gC]; rfl) (fun K hK => ?_) AllReadyH.nil; go_simp; refine hK.out _ _ (by first | exact q1 | go_keep) ?_; clear hHeld hK; intro hHeld; (try simp only [Act.put, sA, sB, sC, hw3, hw4])
  first | (refine wpAnyH_take (i := 7) (v := undef) (by simp only [gA, gB, gC]; rfl) (by kernel_rfl) (by kernel_rfl) (by kernel_rfl) (by exact fun _ _ _ h => h) (Or.inr ⟨by rfl, rfl⟩) (by assumption) ?_; simp only [Act.put, sA, sB, sC, hw3, hw4]) | (refine wpAnyH_ready (rs := [7]) (by kernel_rfl) (by simp) ?_; refine AllReadyH.cons (by simp only [gA, gB, gC]; rfl) (fun K hK => ?_) AllReadyH.nil; go_simp; (first | (go_at_call 49; refine (c3 _).mono ?_; rintro e w' ⟨rfl, rfl⟩)); refine hK.out _ _ (by first | exact q1 | go_keep) ?_; clear hHeld hK; intro hHeld; (try simp only [Act.put, sA, sB, sC, hw3, hw4])) | fail
  (first | (refine wpAnyH_take (i := 8) (v := ?_) (by simp only [gA, gB, gC]; rfl) (by kernel_rfl) (by kernel_rfl) (by kernel_rfl) (by exact fun _ _ _ h => h) (Or.inl ⟨by rfl, ?_⟩) (by assumption) ?_; rotate_left; (focus (intro w hSw; (try dsimp only at hSw); go_simp; try with_reducible rfl))) | (refine wpAnyH_take (i := 8) (v := undef) (by simp only [gA, gB, gC]; rfl) (by kernel_rfl) (by kernel_rfl) (by kernel_rfl) (by exact fun _ _ _ h => h) (Or.inr ⟨by rfl, rfl⟩) (by assumption) ?_) | fail); simp only [Act.put, sA, sB, sC, hw3, hw4]
  (first | (refine wpAnyH_take (i := 9) (v := ?_) (by simp only [gA, gB, gC]; rfl) (by kernel_rfl) (by kernel_rfl) (by kernel_rfl) (by exact fun _ _ _ h => h) (Or.inl ⟨by rfl, ?_⟩) (by assumption) ?_; rotate_left; (focus (intro w hSw; (try dsimp only at hSw); go_simp; try with_reducible rfl))) | (refine wpAnyH_take (i := 9) (v := undef) (by simp only [gA, gB, gC]; rfl) (by kernel_rfl) (by kernel_rfl) (by kernel_rfl) (by exact fun _ _ _ h => h) (Or.inr ⟨by rfl, rfl⟩) (by assumption) ?_) | fail); simp only [Act.put, sA, sB, sC, hw3, hw4]
  refine wpAnyH_ready (rs := [10]) (by kernel_rfl) (by simp) ?_; refine AllReadyH.cons (by simp only [gA, gB, gC]; rfl) (fun K hK => ?_) AllReadyH.nil; go_simp; refine hK.out _ _ (by first | exact q1 | go_keep) ?_; clear hHeld hK; intro hHeld; (try simp only [Act.put, sA, sB, sC, hw3, hw4])
  refine wpAnyH_done (by kernel_rfl) ?_ _
  go_wp2_with fail
  refine (c4 _).mono ?_
  rintro e w' ⟨rfl, rfl⟩
  go_wp2_with fail
  exact bodyPost_ret (v := (⟨A, A + B, A + B + C, G⟩ : Rg).v) (by simp [results, Try.results30, go_sem]) rfl ⟨rfl, (below2 _ _ _).drew.drew⟩
end Go.Proofs.Ytinibccphecdfaa

/-! INSTRUCTIONS AND POINTERS, in plain words (chapter 15): as words, and as texts. No program. -/
namespace Go.Proofs.Ytinibccphecdfaa
open Go.RowKit
set_option maxRecDepth 8000
set_option linter.unusedSimpArgs false
set_option linter.unusedVariables false

/-- An instruction. -/
structure Ins where
  o : Int
  p : Int
  n : Int
abbrev Ins.v (i : Ins) : Value := .agg #[.int .i64 i.o, .int .i64 i.p, .int .i64 i.n]
abbrev ins3 (i : Ins) : List Value := [.int .i64 i.o, .int .i64 i.p, .int .i64 i.n]
def insE (i : Ins) : Int := if i.o < 0 ∨ 22 < i.o then 3 else if i.p < 0 ∨ 3 < i.p ∨ i.n < -2147483648 ∨ 2147483647 < i.n then 1 else 0
def insW (i : Ins) : Int := if insE i = 0 then i.o * 72057594037927936 + i.p * 281474976710656 + i.n % 4294967296 else 0
def u64 (w : Int) : Int := w % 18446744073709551616
def wOp (w : Int) : Int := u64 w / 72057594037927936
def wP (w : Int) : Int := u64 w / 281474976710656 % 256
def wMid (w : Int) : Int := u64 w / 4294967296 % 65536
def wLow (w : Int) : Int := u64 w % 4294967296
def wN (w : Int) : Int := if wLow w < 2147483648 then wLow w else wLow w - 4294967296
def decE (w : Int) : Int := if 22 < wOp w then 3 else if 3 < wP w then 1 else if wMid w ≠ 0 then 11 else 0
def decI (w : Int) : Ins := if decE w = 0 then ⟨wOp w, wP w, wN w⟩ else ⟨0, 0, 0⟩
def goodI (i : Ins) : Ins := ⟨i.o % 23, i.p % 4, i.n % 4294967296 - 2147483648⟩
theorem insE_zero {i : Ins} : insE i = 0 ↔ (0 ≤ i.o ∧ i.o ≤ 22) ∧ 0 ≤ i.p ∧ i.p ≤ 3 ∧ -2147483648 ≤ i.n ∧ i.n ≤ 2147483647 := by
  unfold insE
  constructor
  · intro h
    split at h
    · cases h
    · split at h
      · cases h
      · omega
  · intro h
    rw [if_neg (by omega), if_neg (by omega)]
theorem decE_zero {w : Int} : decE w = 0 ↔ wOp w ≤ 22 ∧ wP w ≤ 3 ∧ wMid w = 0 := by
  unfold decE
  constructor
  · intro h
    split at h
    · cases h
    · split at h
      · cases h
      · split at h
        · cases h
        · omega
  · rintro ⟨h1, h2, h3⟩
    rw [if_neg (by omega), if_neg (by omega), if_neg (by omega)]
theorem good_ins (i : Ins) : insE (goodI i) = 0 := insE_zero.2 ⟨⟨by show 0 ≤ i.o % 23; omega, by show i.o % 23 ≤ 22; omega⟩, by show 0 ≤ i.p % 4; omega, by show i.p % 4 ≤ 3; omega, by show -2147483648 ≤ i.n % 4294967296 - 2147483648; omega, by show i.n % 4294967296 - 2147483648 ≤ 2147483647; omega⟩
theorem insW_eq {i : Ins} (h : insE i = 0) : insW i = i.o * 72057594037927936 + i.p * 281474976710656 + i.n % 4294967296 := by unfold insW; rw [if_pos h]
theorem insW_range {i : Ins} : 0 ≤ insW i ∧ insW i < 1657324662872342528 := by
  unfold insW
  split
  · rename_i h
    have := insE_zero.1 h
    omega
  · omega
theorem w_parts {i : Ins} (h : insE i = 0) : wOp (insW i) = i.o ∧ wP (insW i) = i.p ∧ wMid (insW i) = 0 ∧ wN (insW i) = i.n := by
  have hw := insW_eq h
  have hz := insE_zero.1 h
  have hr := insW_range (i := i)
  have hu : u64 (insW i) = insW i := by unfold u64; omega
  refine ⟨?_, ?_, ?_, ?_⟩
  · unfold wOp; rw [hu]; omega
  · unfold wP; rw [hu]; omega
  · unfold wMid; rw [hu]; omega
  · unfold wN wLow; rw [hu]; split <;> omega
theorem dec_enc {i : Ins} (h : insE i = 0) : decE (insW i) = 0 ∧ decI (insW i) = i := by
  obtain ⟨h1, h2, h3, h4⟩ := w_parts h
  have hz := insE_zero.1 h
  have h0 : decE (insW i) = 0 := decE_zero.2 ⟨by omega, by omega, h3⟩
  refine ⟨h0, ?_⟩
  unfold decI
  rw [if_pos h0, h1, h2, h4]
theorem enc_dec {w : Int} (hw : -9223372036854775808 ≤ w ∧ w ≤ 9223372036854775807) (h : decE w = 0) : insE (decI w) = 0 ∧ insW (decI w) = w := by
  obtain ⟨h1, h2, h3⟩ := decE_zero.1 h
  have hd : decI w = ⟨wOp w, wP w, wN w⟩ := by unfold decI; rw [if_pos h]
  have hu0 : 0 ≤ u64 w := by unfold u64; omega
  have hn : -2147483648 ≤ wN w ∧ wN w ≤ 2147483647 ∧ wN w % 4294967296 = wLow w := by
    unfold wN wLow
    split <;> omega
  have hz : insE (decI w) = 0 := by
    rw [hd]
    exact insE_zero.2 ⟨⟨by show 0 ≤ wOp w; unfold wOp; omega, h1⟩, by show 0 ≤ wP w; unfold wP; omega, h2, hn.1, hn.2.1⟩
  refine ⟨hz, ?_⟩
  rw [insW_eq hz, hd]
  show wOp w * 72057594037927936 + wP w * 281474976710656 + wN w % 4294967296 = w
  rw [hn.2.2]
  unfold wLow wMid wP wOp u64 at *
  omega
/-! Pointers. -/
structure Ptr where
  s : Int
  f : Int
  r : Int
abbrev Ptr.v (p : Ptr) : Value := .agg #[.int .i64 p.s, .int .i64 p.f, .int .i64 p.r]
abbrev ptr3 (p : Ptr) : List Value := [.int .i64 p.s, .int .i64 p.f, .int .i64 p.r]
def ptrW (p : Ptr) : Int := (p.r % 8) * 281474976710656 + (p.s % 65536) * 4294967296 + p.f % 4294967296
def wPtr (w : Int) : Ptr := ⟨wMid w, wLow w, u64 w / 281474976710656 % 8⟩
def goodP (p : Ptr) : Ptr := ⟨p.s % 65536, p.f % 4294967296, p.r % 8⟩
theorem ptr_back (p : Ptr) : wPtr (ptrW (goodP p)) = goodP p := by
  unfold wPtr ptrW goodP wMid wLow u64
  simp only [Ptr.mk.injEq]
  omega
/-! Texts. -/
def opNames : List (List UInt8) := [[104, 97, 108, 116], [108, 100, 97], [115, 116, 97], [108, 100, 105], [97, 100, 100], [115, 117, 98], [109, 117, 108], [102, 97, 100, 100], [102, 115, 117, 98], [102, 109, 117, 108], [102, 100, 105, 118], [102, 108, 101, 115, 115], [102, 108, 116], [102, 105, 120], [106, 109, 112], [106, 122], [106, 110], [115, 101, 116, 112], [108, 100, 112], [103, 101, 116, 112], [99, 97, 108, 108], [114, 101, 116], [111, 117, 116]]
def opL (o : Int) : List UInt8 := opNames.getD o.toNat []
def insT (i : Ins) : List UInt8 := opL i.o ++ 32 :: (Lib.itoa i.p ++ 32 :: Lib.itoa i.n)
def insB (i : Ins) : ByteArray := ⟨(insT i).toArray⟩
theorem opL_fin : ∀ k : Fin 23, (32 : UInt8) ∉ opL ((k : Nat) : Int) ∧ (opL ((k : Nat) : Int)).length ≤ 5 := by decide +kernel
theorem opL_inj : ∀ j k : Fin 23, opL ((j : Nat) : Int) = opL ((k : Nat) : Int) → j = k := by decide +kernel
theorem op_fin {o : Int} (h0 : 0 ≤ o) (h1 : o ≤ 22) : ∃ k : Fin 23, o = ((k : Nat) : Int) := ⟨⟨o.toNat, by omega⟩, by show o = ((o.toNat : Nat) : Int); omega⟩
theorem op_no32 {o : Int} (h0 : 0 ≤ o) (h1 : o ≤ 22) : (32 : UInt8) ∉ opL o := by
  obtain ⟨k, rfl⟩ := op_fin h0 h1
  exact (opL_fin k).1
theorem op_len {o : Int} (h0 : 0 ≤ o) (h1 : o ≤ 22) : (opL o).length ≤ 5 := by
  obtain ⟨k, rfl⟩ := op_fin h0 h1
  exact (opL_fin k).2
theorem dig_step (n : Nat) (h : 10 ≤ n) : Lib.decDigits n = Lib.decDigits (n / 10) ++ Lib.decDigits (n % 10) := by
  have h2 : n % 10 < 10 := Nat.mod_lt _ (by decide)
  rw [Lib.decDigits, dif_neg (by omega), Lib.decDigits.eq_def (n % 10), dif_pos h2]
theorem dig_one (n : Nat) (h : n < 10) : Lib.decDigits n = [UInt8.ofNat (48 + n)] := by
  rw [Lib.decDigits, dif_pos h]
def dval (l : List UInt8) : Nat := l.foldl (fun a c => a * 10 + (c.toNat - 48)) 0
theorem dval_snoc (l : List UInt8) (c : UInt8) : dval (l ++ [c]) = dval l * 10 + (c.toNat - 48) := by
  unfold dval
  rw [List.foldl_append]
  rfl
theorem dig_val : ∀ n : Nat, dval (Lib.decDigits n) = n := fun n => by
  induction n using Nat.strongRecOn with
  | ind n ih =>
    by_cases h : n < 10
    · rw [dig_one n h]
      have : (UInt8.ofNat (48 + n)).toNat = 48 + n := by simp; omega
      show 0 * 10 + ((UInt8.ofNat (48 + n)).toNat - 48) = n
      rw [this]
      omega
    · rw [dig_step n (by omega), dig_one (n % 10) (Nat.mod_lt _ (by decide)), dval_snoc, ih (n / 10) (by omega)]
      have : (UInt8.ofNat (48 + n % 10)).toNat = 48 + n % 10 := by simp; omega
      rw [this]
      omega
theorem dig_mem : ∀ n : Nat, ∀ c ∈ Lib.decDigits n, 48 ≤ c.toNat ∧ c.toNat ≤ 57 := fun n => by
  induction n using Nat.strongRecOn with
  | ind n ih =>
    intro c hc
    by_cases h : n < 10
    · rw [dig_one n h] at hc
      have hc := List.mem_singleton.1 hc
      subst hc
      have : (UInt8.ofNat (48 + n)).toNat = 48 + n := by simp; omega
      omega
    · rw [dig_step n (by omega), List.mem_append] at hc
      rcases hc with hc | hc
      · exact ih _ (by omega) c hc
      · exact ih _ (by omega) c hc
theorem dig_inj {m n : Nat} (h : Lib.decDigits m = Lib.decDigits n) : m = n := by rw [← dig_val m, h, dig_val]
theorem itoa_def (n : Int) : Lib.itoa n = if n < 0 then 45 :: Lib.decDigits n.natAbs else Lib.decDigits n.toNat := rfl
theorem dig_no {n : Nat} {c : UInt8} (hc : c.toNat < 48) : c ∉ Lib.decDigits n := fun h => by
  have := (dig_mem n c h).1
  omega
theorem itoa_no32 (n : Int) : (32 : UInt8) ∉ Lib.itoa n := by
  rw [itoa_def]
  split
  · intro h
    rcases List.mem_cons.1 h with h | h
    · cases h
    · exact dig_no (by decide) h
  · exact dig_no (by decide)
theorem itoa_inj {m n : Int} (h : Lib.itoa m = Lib.itoa n) : m = n := by
  rw [itoa_def, itoa_def] at h
  by_cases hm : m < 0
  · rw [if_pos hm] at h
    by_cases hn : n < 0
    · rw [if_pos hn] at h
      have := dig_inj (List.cons.inj h).2
      omega
    · rw [if_neg hn] at h
      exact absurd (h ▸ List.mem_cons_self) (dig_no (c := 45) (by decide))
  · rw [if_neg hm] at h
    by_cases hn : n < 0
    · rw [if_pos hn] at h
      exact absurd (h.symm ▸ List.mem_cons_self) (dig_no (c := 45) (by decide))
    · rw [if_neg hn] at h
      have := dig_inj h
      omega
theorem cut32 : ∀ {a b a' b' : List UInt8}, (32 : UInt8) ∉ a → (32 : UInt8) ∉ a' → a ++ 32 :: b = a' ++ 32 :: b' → a = a' ∧ b = b'
  | [], b, [], b', _, _, h => ⟨rfl, (List.cons.inj h).2⟩
  | [], b, x :: a', b', _, h2, h => absurd ((List.cons.inj h).1 ▸ List.mem_cons_self) h2
  | x :: a, b, [], b', h1, _, h => absurd ((List.cons.inj h).1 ▸ List.mem_cons_self) h1
  | x :: a, b, y :: a', b', h1, h2, h => by
    obtain ⟨e, h⟩ := List.cons.inj h
    obtain ⟨e1, e2⟩ := cut32 (fun q => h1 (List.mem_cons_of_mem _ q)) (fun q => h2 (List.mem_cons_of_mem _ q)) h
    exact ⟨by rw [e, e1], e2⟩
theorem ins_inj {i j : Ins} (hi : 0 ≤ i.o ∧ i.o ≤ 22) (hj : 0 ≤ j.o ∧ j.o ≤ 22) (h : insT i = insT j) : i = j := by
  obtain ⟨e1, h2⟩ := cut32 (op_no32 hi.1 hi.2) (op_no32 hj.1 hj.2) h
  obtain ⟨e2, e3⟩ := cut32 (itoa_no32 _) (itoa_no32 _) h2
  have h4 := itoa_inj e2
  have h5 := itoa_inj e3
  obtain ⟨k1, q1⟩ := op_fin hi.1 hi.2
  obtain ⟨k2, q2⟩ := op_fin hj.1 hj.2
  rw [q1, q2] at e1
  have := opL_inj _ _ e1
  cases i; cases j
  simp only at q1 q2 h4 h5
  rw [q1, q2, h4, h5, this]
theorem no_count {l : List UInt8} (h : (32 : UInt8) ∉ l) : l.count 32 = 0 := List.count_eq_zero.2 h
theorem ins_count {i : Ins} (hi : 0 ≤ i.o ∧ i.o ≤ 22) : (insT i).count 32 = 2 := by
  unfold insT
  rw [List.count_append, List.count_cons, List.count_append, List.count_cons, no_count (op_no32 hi.1 hi.2), no_count (itoa_no32 _), no_count (itoa_no32 _)]
  rfl
/-- The text of that instruction. -/
def IsT (s : ByteArray) (i : Ins) : Prop := insE i = 0 ∧ insB i = s
theorem IsT.uniq {s : ByteArray} {i j : Ins} (h : IsT s i) (k : IsT s j) : i = j := by
  refine ins_inj (insE_zero.1 h.1).1 (insE_zero.1 k.1).1 ?_
  have := h.2.trans k.2.symm
  unfold insB at this
  have := congrArg (fun b : ByteArray => b.data.toList) this
  simpa using this
theorem IsT.count {s : ByteArray} {i : Ins} (h : IsT s i) : s.data.toList.count 32 = 2 := by
  rw [← h.2]
  unfold insB
  simpa using ins_count (insE_zero.1 h.1).1
end Go.Proofs.Ytinibccphecdfaa

/-! RINGS FOR THE STAGES BEHIND THE FIFTEENTH: package ring, and the document's own (donjonref6): what each call returns. Written by mk_lring.py. -/
namespace Go.Proofs.Ytinibccphecdfaa
open Go.RowKit
set_option maxRecDepth 8000
set_option linter.unusedSimpArgs false
set_option linter.unusedVariables false

theorem below1 (w : World) (a : Obj) : Below w.heap.size w (w.alloc a) := (Below.refl _ _).alloc (Nat.le_refl _) _
theorem RBox.keep {W W' : World} {g : Nat} {l : Rg} (h : RBox W g l) (hb : Below W.heap.size W W') : RBox W' g l := by
  obtain ⟨a, b, c, d⟩ := h
  have hg := World.block_lt_of_cell? _ _ a
  exact ⟨(hb.cell (p := ⟨g, 0, none⟩) hg).trans a, (hb.cell (p := ⟨g, 1, none⟩) hg).trans b, (hb.cell (p := ⟨g, 2, none⟩) hg).trans c, (hb.cell (p := ⟨g, 3, none⟩) hg).trans d⟩
theorem rbox_alloc (w : World) (l : Rg) : RBox (w.alloc (.cells #[.int .i64 l.a, .int .i64 l.b, .int .i64 l.c, .int .i64 l.g] 55)) w.heap.size l := by
  refine ⟨?_, ?_, ?_, ?_⟩ <;> simp [World.cell?_alloc_at]
set_option maxHeartbeats 400000 in
theorem isRing_any (r : Int) (w : World) :
    Calls Try.prog 95 #[.int .i64 r] w fun e w' => e = .returned (.bool (isR r)) ∧ w' = w := by
  by_cases h : 0 ≤ r
  · have e1 : isR r = decide (r ≤ 7) := by simp [isR, h]
    rw [e1]
    go_enter Try.func95, Try.ntmps95
    go_wp2
    go_ret
    exact ⟨rfl, rfl⟩
  · have e1 : isR r = false := by simp [isR, h]
    have h' : decide (0 ≤ r) = false := by simpa using h
    rw [e1]
    go_enter Try.func95, Try.ntmps95
    go_wp2
    go_ret
    exact ⟨rfl, rfl⟩

set_option maxHeartbeats 400000 in
theorem mayRead_any (x : Rg) (r : Int) (w : World) :
    Calls Try.prog 76 #[x.v, .int .i64 r] w fun e w' => e = .returned (.bool (mayR x r)) ∧ Below w.heap.size w w' := by
  have hc := isRing_any r
  cases h : isR r
  · have e1 : mayR x r = false := by simp [isR] at h; simp [mayR]; omega
    rw [e1]; rw [h] at hc
    go_enter Try.func76, Try.ntmps76
    go_wp2_with (go_at_call 95; refine (hc _).mono ?_; rintro e w' ⟨rfl, rfl⟩)
    go_ret
    exact ⟨rfl, below1 _ _⟩
  · have e1 : mayR x r = decide (r ≤ x.b) := by simp [isR] at h; simp [mayR, h]
    rw [e1]; rw [h] at hc
    go_enter Try.func76, Try.ntmps76
    go_wp2_with (go_at_call 95; refine (hc _).mono ?_; rintro e w' ⟨rfl, rfl⟩)
    go_ret
    exact ⟨rfl, below1 _ _⟩

set_option maxHeartbeats 400000 in
theorem mayWrite_any (x : Rg) (r : Int) (w : World) :
    Calls Try.prog 77 #[x.v, .int .i64 r] w fun e w' => e = .returned (.bool (mayW x r)) ∧ Below w.heap.size w w' := by
  have hc := isRing_any r
  cases h : isR r
  · have e1 : mayW x r = false := by simp [isR] at h; simp [mayW]; omega
    rw [e1]; rw [h] at hc
    go_enter Try.func77, Try.ntmps77
    go_wp2_with (go_at_call 95; refine (hc _).mono ?_; rintro e w' ⟨rfl, rfl⟩)
    go_ret
    exact ⟨rfl, below1 _ _⟩
  · have e1 : mayW x r = decide (r ≤ x.a) := by simp [isR] at h; simp [mayW, h]
    rw [e1]; rw [h] at hc
    go_enter Try.func77, Try.ntmps77
    go_wp2_with (go_at_call 95; refine (hc _).mono ?_; rintro e w' ⟨rfl, rfl⟩)
    go_ret
    exact ⟨rfl, below1 _ _⟩

set_option maxHeartbeats 400000 in
theorem mayExec_any (x : Rg) (r : Int) (w : World) :
    Calls Try.prog 66 #[x.v, .int .i64 r] w fun e w' => e = .returned (.bool (mayX x r)) ∧ Below w.heap.size w w' := by
  have hc := isRing_any r
  cases h : isR r
  · have e1 : mayX x r = false := by simp [isR] at h; simp [mayX]; omega
    rw [e1]; rw [h] at hc
    go_enter Try.func66, Try.ntmps66
    go_wp2_with (go_at_call 95; refine (hc _).mono ?_; rintro e w' ⟨rfl, rfl⟩)
    go_ret
    exact ⟨rfl, below1 _ _⟩
  · by_cases h1 : x.a ≤ r
    · have e1 : mayX x r = decide (r ≤ x.b) := by simp [isR] at h; simp [mayX, h, h1]
      rw [e1]; rw [h] at hc
      go_enter Try.func66, Try.ntmps66
      go_wp2_with (go_at_call 95; refine (hc _).mono ?_; rintro e w' ⟨rfl, rfl⟩)
      go_ret
      exact ⟨rfl, below1 _ _⟩
    · have e1 : mayX x r = false := by simp [mayX, h1]
      have h' : decide (x.a ≤ r) = false := by simpa using h1
      rw [e1]; rw [h] at hc
      go_enter Try.func66, Try.ntmps66
      go_wp2_with (go_at_call 95; refine (hc _).mono ?_; rintro e w' ⟨rfl, rfl⟩)
      go_ret
      exact ⟨rfl, below1 _ _⟩
/-- Where a call goes on, and what is answered. -/
def callN (x : Rg) (off r : Int) : Int := if off < 0 ∨ 16 ≤ off ∨ r < 0 ∨ 7 < r then 0 else if x.a ≤ r ∧ r ≤ x.b then r else if x.b < r ∧ r ≤ x.c ∧ off < x.g then x.b else if x.a ≤ r then 0 else x.a
def callE (x : Rg) (off r : Int) : Int := if off < 0 ∨ 16 ≤ off ∨ r < 0 ∨ 7 < r then 34 else if x.a ≤ r ∧ r ≤ x.b then 0 else if x.b < r ∧ r ≤ x.c ∧ off < x.g then 0 else if x.a ≤ r then 34 else 0

set_option maxHeartbeats 2000000 in
theorem rgcall_any (x : Rg) (off r : Int) (w : World) (hx : OkR x) :
    Calls Try.prog 92 #[x.v, .int .i64 off, .int .i64 r] w fun e w' => e = .returned (.tuple #[.int .i64 (callN x off r), .int .i64 (callE x off r)]) ∧ Below w.heap.size w w' := by
  obtain ⟨x0, x1, x2, x3, x4, x5⟩ := hx
  have hc := isRing_any r
  have hm := mayExec_any x r
  have hb := rbox_alloc w x
  have hB := below1 w (.cells #[.int .i64 x.a, .int .i64 x.b, .int .i64 x.c, .int .i64 x.g] 55)
  by_cases h0 : off < 0
  · have e1 : callN x off r = 0 := by simp only [callN]; rw [if_pos (by omega)]
    have e2 : callE x off r = 34 := by simp only [callE]; rw [if_pos (by omega)]
    rw [e1, e2]
    go_enter Try.func92, Try.ntmps92
    go_wp2
    exact bodyPost_ret (v := .tuple #[.int .i64 (0), .int .i64 34]) (by simp [results, Try.results92, go_sem]) rfl ⟨rfl, below1 _ _⟩
  by_cases h1 : 16 ≤ off
  · have e1 : callN x off r = 0 := by simp only [callN]; rw [if_pos (by omega)]
    have e2 : callE x off r = 34 := by simp only [callE]; rw [if_pos (by omega)]
    rw [e1, e2]
    go_enter Try.func92, Try.ntmps92
    go_wp2
    exact bodyPost_ret (v := .tuple #[.int .i64 (0), .int .i64 34]) (by simp [results, Try.results92, go_sem]) rfl ⟨rfl, below1 _ _⟩
  cases h2 : isR r
  · have h2' := h2
    simp [isR] at h2'
    have e1 : callN x off r = 0 := by simp only [callN]; rw [if_pos (by omega)]
    have e2 : callE x off r = 34 := by simp only [callE]; rw [if_pos (by omega)]
    rw [e1, e2]
    rw [h2] at hc
    go_enter Try.func92, Try.ntmps92
    go_wp2_with (first | (go_at_call 95; refine (hc _).mono ?_; rintro e w' ⟨rfl, rfl⟩) | fail)
    exact bodyPost_ret (v := .tuple #[.int .i64 (0), .int .i64 34]) (by simp [results, Try.results92, go_sem]) rfl ⟨rfl, below1 _ _⟩
  have h2' := h2
  simp [isR] at h2'
  rw [h2] at hc
  by_cases h3 : x.a ≤ r ∧ r ≤ x.b
  · obtain ⟨h3a, h3b⟩ := id h3
    have e1 : callN x off r = r := by simp only [callN]; rw [if_neg (by omega), if_pos (by omega)]
    have e2 : callE x off r = 0 := by simp only [callE]; rw [if_neg (by omega), if_pos (by omega)]
    have e3 : mayX x r = true := by simp [mayX]; omega
    rw [e1, e2]
    rw [e3] at hm
    go_enter Try.func92, Try.ntmps92
    go_wp2_with (first | (go_at_call 95; refine (hc _).mono ?_; rintro e w' ⟨rfl, rfl⟩) | fail)
    refine (hm _).mono ?_
    rintro e w1 ⟨rfl, hB1⟩
    obtain ⟨z0, z1, z2, z3⟩ := hb.keep hB1
    go_wp2_with fail
    exact bodyPost_ret (v := .tuple #[.int .i64 (r), .int .i64 0]) (by simp [results, Try.results92, go_sem]) rfl ⟨rfl, Below.then hB hB1⟩
  by_cases h4 : r ≤ x.b
  · have h5 : r < x.a := by omega
    have e1 : callN x off r = x.a := by simp only [callN]; rw [if_neg (by omega), if_neg (by omega), if_neg (by omega), if_neg (by omega)]
    have e2 : callE x off r = 0 := by simp only [callE]; rw [if_neg (by omega), if_neg (by omega), if_neg (by omega), if_neg (by omega)]
    have e3 : mayX x r = false := by simp [mayX]; omega
    rw [e1, e2]
    rw [e3] at hm
    go_enter Try.func92, Try.ntmps92
    go_wp2_with (first | (go_at_call 95; refine (hc _).mono ?_; rintro e w' ⟨rfl, rfl⟩) | fail)
    refine (hm _).mono ?_
    rintro e w1 ⟨rfl, hB1⟩
    obtain ⟨z0, z1, z2, z3⟩ := hb.keep hB1
    go_wp2_with fail
    exact bodyPost_ret (v := .tuple #[.int .i64 (x.a), .int .i64 0]) (by simp [results, Try.results92, go_sem]) rfl ⟨rfl, Below.then hB hB1⟩
  have h6 : x.b < r := by omega
  have h7 : x.a ≤ r := by omega
  by_cases h8 : r ≤ x.c
  · by_cases h9 : off < x.g
    · skip
      have e1 : callN x off r = x.b := by simp only [callN]; rw [if_neg (by omega), if_neg (by omega), if_pos (by omega)]
      have e2 : callE x off r = 0 := by simp only [callE]; rw [if_neg (by omega), if_neg (by omega), if_pos (by omega)]
      have e3 : mayX x r = false := by simp [mayX]; omega
      rw [e1, e2]
      rw [e3] at hm
      go_enter Try.func92, Try.ntmps92
      go_wp2_with (first | (go_at_call 95; refine (hc _).mono ?_; rintro e w' ⟨rfl, rfl⟩) | fail)
      refine (hm _).mono ?_
      rintro e w1 ⟨rfl, hB1⟩
      obtain ⟨z0, z1, z2, z3⟩ := hb.keep hB1
      go_wp2_with fail
      exact bodyPost_ret (v := .tuple #[.int .i64 (x.b), .int .i64 0]) (by simp [results, Try.results92, go_sem]) rfl ⟨rfl, Below.then hB hB1⟩
    · skip
      have e1 : callN x off r = 0 := by simp only [callN]; rw [if_neg (by omega), if_neg (by omega), if_neg (by omega), if_pos (by omega)]
      have e2 : callE x off r = 34 := by simp only [callE]; rw [if_neg (by omega), if_neg (by omega), if_neg (by omega), if_pos (by omega)]
      have e3 : mayX x r = false := by simp [mayX]; omega
      rw [e1, e2]
      rw [e3] at hm
      go_enter Try.func92, Try.ntmps92
      go_wp2_with (first | (go_at_call 95; refine (hc _).mono ?_; rintro e w' ⟨rfl, rfl⟩) | fail)
      refine (hm _).mono ?_
      rintro e w1 ⟨rfl, hB1⟩
      obtain ⟨z0, z1, z2, z3⟩ := hb.keep hB1
      go_wp2_with fail
      exact bodyPost_ret (v := .tuple #[.int .i64 (0), .int .i64 34]) (by simp [results, Try.results92, go_sem]) rfl ⟨rfl, Below.then hB hB1⟩
  · skip
    have e1 : callN x off r = 0 := by simp only [callN]; rw [if_neg (by omega), if_neg (by omega), if_neg (by omega), if_pos (by omega)]
    have e2 : callE x off r = 34 := by simp only [callE]; rw [if_neg (by omega), if_neg (by omega), if_neg (by omega), if_pos (by omega)]
    have e3 : mayX x r = false := by simp [mayX]; omega
    rw [e1, e2]
    rw [e3] at hm
    go_enter Try.func92, Try.ntmps92
    go_wp2_with (first | (go_at_call 95; refine (hc _).mono ?_; rintro e w' ⟨rfl, rfl⟩) | fail)
    refine (hm _).mono ?_
    rintro e w1 ⟨rfl, hB1⟩
    obtain ⟨z0, z1, z2, z3⟩ := hb.keep hB1
    go_wp2_with fail
    exact bodyPost_ret (v := .tuple #[.int .i64 (0), .int .i64 34]) (by simp [results, Try.results92, go_sem]) rfl ⟨rfl, Below.then hB hB1⟩
def follow (p : Ptr) (x : Rg) (r : Int) : Ptr := ⟨p.s, p.f, gmax (gmax p.r x.a) r⟩

set_option maxHeartbeats 1000000 in
theorem follow_any (p : Ptr) (x : Rg) (r : Int) (w : World) :
    Calls Try.prog 90 #[p.v, x.v, .int .i64 r] w fun e w' => e = .returned (follow p x r).v ∧ Below w.heap.size w w' := by
  go_enter Try.func90, Try.ntmps90
  go_wp2
  all_goals (refine bodyPost_ret (v := (follow p x r).v) ?_ rfl ⟨rfl, below3 _ _ _ _⟩; have e : (follow p x r).r = _ := rfl; simp only [follow, gmax] at e ⊢; simp [results, Try.results90, go_sem, *] <;> omega)

set_option maxHeartbeats 400000 in
theorem risRing_any (r : Int) (w : World) :
    Calls Try.prog 71 #[.int .i64 r] w fun e w' => e = .returned (.bool (isR r)) ∧ w' = w := by
  by_cases h : 0 ≤ r
  · have e1 : isR r = decide (r ≤ 7) := by simp [isR, h]
    rw [e1]
    go_enter Try.func71, Try.ntmps71
    go_wp2
    go_ret
    exact ⟨rfl, rfl⟩
  · have e1 : isR r = false := by simp [isR, h]
    have h' : decide (0 ≤ r) = false := by simpa using h
    rw [e1]
    go_enter Try.func71, Try.ntmps71
    go_wp2
    go_ret
    exact ⟨rfl, rfl⟩

set_option maxHeartbeats 400000 in
theorem rmayRead_any (x : Rg) (r : Int) (w : World) :
    Calls Try.prog 70 #[x.v, .int .i64 r] w fun e w' => e = .returned (.bool (mayR x r)) ∧ Below w.heap.size w w' := by
  have hc := risRing_any r
  cases h : isR r
  · have e1 : mayR x r = false := by simp [isR] at h; simp [mayR]; omega
    rw [e1]; rw [h] at hc
    go_enter Try.func70, Try.ntmps70
    go_wp2_with (go_at_call 71; refine (hc _).mono ?_; rintro e w' ⟨rfl, rfl⟩)
    go_ret
    exact ⟨rfl, below1 _ _⟩
  · have e1 : mayR x r = decide (r ≤ x.b) := by simp [isR] at h; simp [mayR, h]
    rw [e1]; rw [h] at hc
    go_enter Try.func70, Try.ntmps70
    go_wp2_with (go_at_call 71; refine (hc _).mono ?_; rintro e w' ⟨rfl, rfl⟩)
    go_ret
    exact ⟨rfl, below1 _ _⟩

set_option maxHeartbeats 400000 in
theorem rmayWrite_any (x : Rg) (r : Int) (w : World) :
    Calls Try.prog 41 #[x.v, .int .i64 r] w fun e w' => e = .returned (.bool (mayW x r)) ∧ Below w.heap.size w w' := by
  have hc := risRing_any r
  cases h : isR r
  · have e1 : mayW x r = false := by simp [isR] at h; simp [mayW]; omega
    rw [e1]; rw [h] at hc
    go_enter Try.func41, Try.ntmps41
    go_wp2_with (go_at_call 71; refine (hc _).mono ?_; rintro e w' ⟨rfl, rfl⟩)
    go_ret
    exact ⟨rfl, below1 _ _⟩
  · have e1 : mayW x r = decide (r ≤ x.a) := by simp [isR] at h; simp [mayW, h]
    rw [e1]; rw [h] at hc
    go_enter Try.func41, Try.ntmps41
    go_wp2_with (go_at_call 71; refine (hc _).mono ?_; rintro e w' ⟨rfl, rfl⟩)
    go_ret
    exact ⟨rfl, below1 _ _⟩

set_option maxHeartbeats 400000 in
theorem rmayExec_any (x : Rg) (r : Int) (w : World) :
    Calls Try.prog 69 #[x.v, .int .i64 r] w fun e w' => e = .returned (.bool (mayX x r)) ∧ Below w.heap.size w w' := by
  have hc := risRing_any r
  cases h : isR r
  · have e1 : mayX x r = false := by simp [isR] at h; simp [mayX]; omega
    rw [e1]; rw [h] at hc
    go_enter Try.func69, Try.ntmps69
    go_wp2_with (go_at_call 71; refine (hc _).mono ?_; rintro e w' ⟨rfl, rfl⟩)
    go_ret
    exact ⟨rfl, below1 _ _⟩
  · by_cases h1 : x.a ≤ r
    · have e1 : mayX x r = decide (r ≤ x.b) := by simp [isR] at h; simp [mayX, h, h1]
      rw [e1]; rw [h] at hc
      go_enter Try.func69, Try.ntmps69
      go_wp2_with (go_at_call 71; refine (hc _).mono ?_; rintro e w' ⟨rfl, rfl⟩)
      go_ret
      exact ⟨rfl, below1 _ _⟩
    · have e1 : mayX x r = false := by simp [mayX, h1]
      have h' : decide (x.a ≤ r) = false := by simpa using h1
      rw [e1]; rw [h] at hc
      go_enter Try.func69, Try.ntmps69
      go_wp2_with (go_at_call 71; refine (hc _).mono ?_; rintro e w' ⟨rfl, rfl⟩)
      go_ret
      exact ⟨rfl, below1 _ _⟩
set_option maxHeartbeats 1000000 in
theorem rfollow_any (p : Ptr) (x : Rg) (r : Int) (w : World) :
    Calls Try.prog 43 #[p.v, x.v, .int .i64 r] w fun e w' => e = .returned (follow p x r).v ∧ Below w.heap.size w w' := by
  go_enter Try.func43, Try.ntmps43
  go_wp2
  all_goals (refine bodyPost_ret (v := (follow p x r).v) ?_ rfl ⟨rfl, below3 _ _ _ _⟩; have e : (follow p x r).r = _ := rfl; simp only [follow, gmax] at e ⊢; simp [results, Try.results43, go_sem, *] <;> omega)


set_option maxHeartbeats 2000000 in
theorem rcall_any (x : Rg) (off r : Int) (w : World) (hx : OkR x) :
    Calls Try.prog 72 #[x.v, .int .i64 off, .int .i64 r] w fun e w' => e = .returned (.tuple #[.int .i64 (callN x off r), .int .i64 (callE x off r)]) ∧ Below w.heap.size w w' := by
  obtain ⟨x0, x1, x2, x3, x4, x5⟩ := hx
  have hc := risRing_any r
  have hm := rmayExec_any x r
  have hb := rbox_alloc w x
  have hB := below1 w (.cells #[.int .i64 x.a, .int .i64 x.b, .int .i64 x.c, .int .i64 x.g] 55)
  cases h2 : isR r
  · have h2' := h2
    simp [isR] at h2'
    have e1 : callN x off r = 0 := by simp only [callN]; rw [if_pos (by omega)]
    have e2 : callE x off r = 34 := by simp only [callE]; rw [if_pos (by omega)]
    rw [e1, e2]
    rw [h2] at hc
    go_enter Try.func72, Try.ntmps72
    go_wp2_with (first | (go_at_call 71; refine (hc _).mono ?_; rintro e w' ⟨rfl, rfl⟩) | fail)
    exact bodyPost_ret (v := .tuple #[.int .i64 (0), .int .i64 34]) (by simp [results, Try.results72, go_sem]) rfl ⟨rfl, below1 _ _⟩
  have h2' := h2
  simp [isR] at h2'
  rw [h2] at hc
  by_cases h0 : off < 0
  · have e1 : callN x off r = 0 := by simp only [callN]; rw [if_pos (by omega)]
    have e2 : callE x off r = 34 := by simp only [callE]; rw [if_pos (by omega)]
    rw [e1, e2]
    go_enter Try.func72, Try.ntmps72
    go_wp2_with (first | (go_at_call 71; refine (hc _).mono ?_; rintro e w' ⟨rfl, rfl⟩) | fail)
    exact bodyPost_ret (v := .tuple #[.int .i64 (0), .int .i64 34]) (by simp [results, Try.results72, go_sem]) rfl ⟨rfl, below1 _ _⟩
  by_cases h1 : 16 ≤ off
  · have e1 : callN x off r = 0 := by simp only [callN]; rw [if_pos (by omega)]
    have e2 : callE x off r = 34 := by simp only [callE]; rw [if_pos (by omega)]
    rw [e1, e2]
    go_enter Try.func72, Try.ntmps72
    go_wp2_with (first | (go_at_call 71; refine (hc _).mono ?_; rintro e w' ⟨rfl, rfl⟩) | fail)
    exact bodyPost_ret (v := .tuple #[.int .i64 (0), .int .i64 34]) (by simp [results, Try.results72, go_sem]) rfl ⟨rfl, below1 _ _⟩
  by_cases h3 : x.a ≤ r ∧ r ≤ x.b
  · obtain ⟨h3a, h3b⟩ := id h3
    have e1 : callN x off r = r := by simp only [callN]; rw [if_neg (by omega), if_pos (by omega)]
    have e2 : callE x off r = 0 := by simp only [callE]; rw [if_neg (by omega), if_pos (by omega)]
    have e3 : mayX x r = true := by simp [mayX]; omega
    rw [e1, e2]
    rw [e3] at hm
    go_enter Try.func72, Try.ntmps72
    go_wp2_with (first | (go_at_call 71; refine (hc _).mono ?_; rintro e w' ⟨rfl, rfl⟩) | fail)
    refine (hm _).mono ?_
    rintro e w1 ⟨rfl, hB1⟩
    obtain ⟨z0, z1, z2, z3⟩ := hb.keep hB1
    go_wp2_with fail
    exact bodyPost_ret (v := .tuple #[.int .i64 (r), .int .i64 0]) (by simp [results, Try.results72, go_sem]) rfl ⟨rfl, Below.then hB hB1⟩
  by_cases h4 : r ≤ x.b
  · have h5 : r < x.a := by omega
    have e1 : callN x off r = x.a := by simp only [callN]; rw [if_neg (by omega), if_neg (by omega), if_neg (by omega), if_neg (by omega)]
    have e2 : callE x off r = 0 := by simp only [callE]; rw [if_neg (by omega), if_neg (by omega), if_neg (by omega), if_neg (by omega)]
    have e3 : mayX x r = false := by simp [mayX]; omega
    rw [e1, e2]
    rw [e3] at hm
    go_enter Try.func72, Try.ntmps72
    go_wp2_with (first | (go_at_call 71; refine (hc _).mono ?_; rintro e w' ⟨rfl, rfl⟩) | fail)
    refine (hm _).mono ?_
    rintro e w1 ⟨rfl, hB1⟩
    obtain ⟨z0, z1, z2, z3⟩ := hb.keep hB1
    go_wp2_with fail
    exact bodyPost_ret (v := .tuple #[.int .i64 (x.a), .int .i64 0]) (by simp [results, Try.results72, go_sem]) rfl ⟨rfl, Below.then hB hB1⟩
  have h6 : x.b < r := by omega
  have h7 : x.a ≤ r := by omega
  by_cases h8 : r ≤ x.c
  · by_cases h9 : off < x.g
    · skip
      have e1 : callN x off r = x.b := by simp only [callN]; rw [if_neg (by omega), if_neg (by omega), if_pos (by omega)]
      have e2 : callE x off r = 0 := by simp only [callE]; rw [if_neg (by omega), if_neg (by omega), if_pos (by omega)]
      have e3 : mayX x r = false := by simp [mayX]; omega
      rw [e1, e2]
      rw [e3] at hm
      go_enter Try.func72, Try.ntmps72
      go_wp2_with (first | (go_at_call 71; refine (hc _).mono ?_; rintro e w' ⟨rfl, rfl⟩) | fail)
      refine (hm _).mono ?_
      rintro e w1 ⟨rfl, hB1⟩
      obtain ⟨z0, z1, z2, z3⟩ := hb.keep hB1
      go_wp2_with fail
      exact bodyPost_ret (v := .tuple #[.int .i64 (x.b), .int .i64 0]) (by simp [results, Try.results72, go_sem]) rfl ⟨rfl, Below.then hB hB1⟩
    · skip
      have e1 : callN x off r = 0 := by simp only [callN]; rw [if_neg (by omega), if_neg (by omega), if_neg (by omega), if_pos (by omega)]
      have e2 : callE x off r = 34 := by simp only [callE]; rw [if_neg (by omega), if_neg (by omega), if_neg (by omega), if_pos (by omega)]
      have e3 : mayX x r = false := by simp [mayX]; omega
      rw [e1, e2]
      rw [e3] at hm
      go_enter Try.func72, Try.ntmps72
      go_wp2_with (first | (go_at_call 71; refine (hc _).mono ?_; rintro e w' ⟨rfl, rfl⟩) | fail)
      refine (hm _).mono ?_
      rintro e w1 ⟨rfl, hB1⟩
      obtain ⟨z0, z1, z2, z3⟩ := hb.keep hB1
      go_wp2_with fail
      exact bodyPost_ret (v := .tuple #[.int .i64 (0), .int .i64 34]) (by simp [results, Try.results72, go_sem]) rfl ⟨rfl, Below.then hB hB1⟩
  · skip
    have e1 : callN x off r = 0 := by simp only [callN]; rw [if_neg (by omega), if_neg (by omega), if_neg (by omega), if_pos (by omega)]
    have e2 : callE x off r = 34 := by simp only [callE]; rw [if_neg (by omega), if_neg (by omega), if_neg (by omega), if_pos (by omega)]
    have e3 : mayX x r = false := by simp [mayX]; omega
    rw [e1, e2]
    rw [e3] at hm
    go_enter Try.func72, Try.ntmps72
    go_wp2_with (first | (go_at_call 71; refine (hc _).mono ?_; rintro e w' ⟨rfl, rfl⟩) | fail)
    refine (hm _).mono ?_
    rintro e w1 ⟨rfl, hB1⟩
    obtain ⟨z0, z1, z2, z3⟩ := hb.keep hB1
    go_wp2_with fail
    exact bodyPost_ret (v := .tuple #[.int .i64 (0), .int .i64 34]) (by simp [results, Try.results72, go_sem]) rfl ⟨rfl, Below.then hB hB1⟩
end Go.Proofs.Ytinibccphecdfaa

/-! PLAIN FACTS ON 64-BIT FLOATS, no Go in sight: which words are no number; that the order of floats is the order of their signed rungs. -/
namespace Go.Proofs.Ytinibccphecdfaa

/-- The rung of a word: all bits but the sign. -/
def rung (n : Nat) : Nat := n % 9223372036854775808
/-- The sign of a word. -/
def sgn (n : Nat) : Bool := n / 9223372036854775808 % 2 == 1
/-- A natural number with a sign. -/
def sg (s : Bool) (n : Nat) : Int := if s then -(n : Int) else (n : Int)
/-- The signed rung. -/
def key (n : Nat) : Int := sg (sgn n) (rung n)
/-- Is the word no number? -/
def isN (n : Nat) : Bool := FloatKind.f64.format.order n n != some .eq
/-- What a rung stands for, in units of the least float. -/
def val (r : Nat) : Nat := if r < 4503599627370496 then r else (4503599627370496 + r % 4503599627370496) * 2 ^ (r / 4503599627370496 - 1)

theorem read_eq (n : Nat) : FloatKind.f64.format.read n =
    if rung n < 4503599627370496 then .number (sgn n) (rung n) (-1074)
    else if rung n < 9218868437227405312 then .number (sgn n) (4503599627370496 + rung n % 4503599627370496) (-1074 + (rung n / 4503599627370496 - 1 : Nat))
    else if rung n = 9218868437227405312 then .infinity (sgn n)
    else .nan (sgn n) (rung n - 9218868437227405312) := rfl

theorem val_mono_lt {a b : Nat} (h : a < b) : val a < val b := by
  unfold val
  have p1 : 0 < 2 ^ (a / 4503599627370496 - 1) := Nat.two_pow_pos _
  have p2 : 0 < 2 ^ (b / 4503599627370496 - 1) := Nat.two_pow_pos _
  by_cases ha : a < 4503599627370496
  · rw [if_pos ha]
    by_cases hb : b < 4503599627370496
    · rw [if_pos hb]; exact h
    · rw [if_neg hb]
      have : 4503599627370496 * 1 ≤ (4503599627370496 + b % 4503599627370496) * 2 ^ (b / 4503599627370496 - 1) := Nat.mul_le_mul (by omega) p2
      omega
  · have hb : ¬ b < 4503599627370496 := by omega
    rw [if_neg ha, if_neg hb]
    by_cases hq : a / 4503599627370496 = b / 4503599627370496
    · rw [← hq]
      exact Nat.mul_lt_mul_of_pos_right (by omega) p1
    · have hlt : a / 4503599627370496 < b / 4503599627370496 := by omega
      have e : 2 ^ (b / 4503599627370496 - 1) = 2 ^ (a / 4503599627370496 - 1) * 2 ^ (b / 4503599627370496 - a / 4503599627370496) := by
        rw [← Nat.pow_add]; congr 1; omega
      have p3 : 2 ≤ 2 ^ (b / 4503599627370496 - a / 4503599627370496) := by
        have : 2 ^ 1 ≤ 2 ^ (b / 4503599627370496 - a / 4503599627370496) := Nat.pow_le_pow_right (by omega) (by omega)
        omega
      have l1 : (4503599627370496 + a % 4503599627370496) * 2 ^ (a / 4503599627370496 - 1) < 9007199254740992 * 2 ^ (a / 4503599627370496 - 1) := Nat.mul_lt_mul_of_pos_right (by omega) p1
      have l2 : 9007199254740992 * 2 ^ (a / 4503599627370496 - 1) ≤ 4503599627370496 * 2 ^ (b / 4503599627370496 - 1) := by
        rw [e]
        have : 4503599627370496 * 2 * 2 ^ (a / 4503599627370496 - 1) ≤ 4503599627370496 * 2 ^ (b / 4503599627370496 - a / 4503599627370496) * 2 ^ (a / 4503599627370496 - 1) := Nat.mul_le_mul_right _ (Nat.mul_le_mul_left _ p3)
        rw [Nat.mul_comm (2 ^ (a / 4503599627370496 - 1)), ← Nat.mul_assoc]
        omega
      have l3 : 4503599627370496 * 2 ^ (b / 4503599627370496 - 1) ≤ (4503599627370496 + b % 4503599627370496) * 2 ^ (b / 4503599627370496 - 1) := Nat.mul_le_mul_right _ (by omega)
      omega

theorem val_zero : val 0 = 0 := rfl

theorem val_lt_iff {a b : Nat} : val a < val b ↔ a < b := by
  constructor
  · intro h
    rcases Nat.lt_trichotomy a b with h1 | h1 | h1
    · exact h1
    · subst h1; omega
    · have := val_mono_lt h1; omega
  · exact val_mono_lt

theorem val_inj {a b : Nat} (h : val a = val b) : a = b := by
  rcases Nat.lt_trichotomy a b with h1 | h1 | h1
  · have := val_mono_lt h1; omega
  · exact h1
  · have := val_mono_lt h1; omega

theorem sg_lt_iff (s t : Bool) (a b : Nat) : sg s (val a) < sg t (val b) ↔ sg s a < sg t b := by
  have h1 := @val_lt_iff a b
  have h2 := @val_lt_iff b a
  have h3 := @val_lt_iff 0 a
  have h4 := @val_lt_iff 0 b
  rw [val_zero] at h3 h4
  cases s <;> cases t <;> simp only [sg, if_true, Bool.false_eq_true, if_false] <;> omega

theorem sg_eq_iff (s t : Bool) (a b : Nat) : sg s (val a) = sg t (val b) ↔ sg s a = sg t b := by
  have h1 := sg_lt_iff s t a b
  have h2 := sg_lt_iff t s b a
  omega

/-- How two integers stand. -/
def cmpI (a b : Int) : Ordering := if a < b then .lt else if a = b then .eq else .gt

theorem compare_int (a b : Int) : compare a b = cmpI a b := rfl

theorem cmpI_val (s t : Bool) (a b : Nat) : cmpI (sg s (val a)) (sg t (val b)) = cmpI (sg s a) (sg t b) := by
  unfold cmpI
  simp only [sg_lt_iff, sg_eq_iff]

theorem cmpI_mul (a b : Int) (k : Nat) (hk : 0 < k) : cmpI (a * k) (b * k) = cmpI a b := by
  have h1 : a * (k : Int) < b * (k : Int) ↔ a < b := Int.mul_lt_mul_right (by omega)
  have h2 : a * (k : Int) = b * (k : Int) ↔ a = b := Int.mul_eq_mul_right_iff (by omega)
  unfold cmpI
  simp only [h1, h2]

theorem signed_eq (s : Bool) (m k : Nat) : Ieee.signed s m k = sg s (m * 2 ^ k) := by
  unfold Ieee.signed sg
  rw [Nat.shiftLeft_eq]

theorem sg_mul (s : Bool) (n k : Nat) : sg s n * (k : Int) = sg s (n * k) := by
  cases s <;> simp [sg, Int.neg_mul]

/-- A finite word's sign, digits and place, the place counted from the least. -/
def mag (r : Nat) : Nat := if r < 4503599627370496 then r else 4503599627370496 + r % 4503599627370496
def up (r : Nat) : Nat := r / 4503599627370496 - 1

theorem val_eq (r : Nat) : val r = mag r * 2 ^ up r := by
  unfold val mag up
  by_cases h : r < 4503599627370496
  · rw [if_pos h, if_pos h, show r / 4503599627370496 = 0 from by omega]; simp
  · rw [if_neg h, if_neg h]

theorem read_fin {n : Nat} (h : rung n < 9218868437227405312) : FloatKind.f64.format.read n = .number (sgn n) (mag (rung n)) (-1074 + (up (rung n) : Int)) := by
  rw [read_eq]
  unfold mag up
  by_cases h1 : rung n < 4503599627370496
  · rw [if_pos h1, if_pos h1, show rung n / 4503599627370496 = 0 from by omega]; rfl
  · rw [if_neg h1, if_pos h, if_neg h1]

theorem read_inf {n : Nat} (h : rung n = 9218868437227405312) : FloatKind.f64.format.read n = .infinity (sgn n) := by
  rw [read_eq, if_neg (by omega), if_neg (by omega), if_pos h]

theorem read_nan {n : Nat} (h : 9218868437227405312 < rung n) : FloatKind.f64.format.read n = .nan (sgn n) (rung n - 9218868437227405312) := by
  rw [read_eq, if_neg (by omega), if_neg (by omega), if_neg (by omega)]

theorem order_scaled (s t : Bool) (m n i j : Nat) :
    Ieee.Datum.order (.number s m (-1074 + (i : Int))) (.number t n (-1074 + (j : Int))) = some (cmpI (sg s (m * 2 ^ i)) (sg t (n * 2 ^ j))) := by
  have e1 : (-1074 + (i : Int) - min (-1074 + (i : Int)) (-1074 + (j : Int))).toNat = i - min i j := by omega
  have e2 : (-1074 + (j : Int) - min (-1074 + (i : Int)) (-1074 + (j : Int))).toNat = j - min i j := by omega
  have f1 : m * 2 ^ i = m * 2 ^ (i - min i j) * 2 ^ min i j := by rw [Nat.mul_assoc, ← Nat.pow_add]; congr 2; omega
  have f2 : n * 2 ^ j = n * 2 ^ (j - min i j) * 2 ^ min i j := by rw [Nat.mul_assoc, ← Nat.pow_add]; congr 2; omega
  simp only [Ieee.Datum.order, e1, e2, compare_int, signed_eq]
  rw [f1, f2, ← sg_mul s (m * 2 ^ (i - min i j)), ← sg_mul t (n * 2 ^ (j - min i j)), cmpI_mul _ _ _ (Nat.two_pow_pos _)]

theorem sg_inf (s : Bool) {r : Nat} (h : r < 9218868437227405312) (t : Bool) : cmpI (sg s 9218868437227405312) (sg t r) = (if s then .lt else .gt) := by
  unfold cmpI sg
  cases s <;> cases t <;> simp only [if_true, Bool.false_eq_true, if_false]
  · rw [if_neg (by omega), if_neg (by omega)]
  · rw [if_neg (by omega), if_neg (by omega)]
  · rw [if_pos (by omega)]
  · rw [if_pos (by omega)]

theorem sg_inf' (t : Bool) {r : Nat} (h : r < 9218868437227405312) (s : Bool) : cmpI (sg s r) (sg t 9218868437227405312) = (if t then .gt else .lt) := by
  unfold cmpI sg
  cases s <;> cases t <;> simp only [if_true, Bool.false_eq_true, if_false]
  · rw [if_pos (by omega)]
  · rw [if_neg (by omega), if_neg (by omega)]
  · rw [if_pos (by omega)]
  · rw [if_neg (by omega), if_neg (by omega)]

/-- THE ORDER OF FLOATS IS THE ORDER OF THEIR SIGNED RUNGS. -/
theorem order_key {x y : Nat} (hx : rung x ≤ 9218868437227405312) (hy : rung y ≤ 9218868437227405312) :
    FloatKind.f64.format.order x y = some (cmpI (key x) (key y)) := by
  unfold Ieee.Format.order key
  by_cases h1 : rung x = 9218868437227405312
  · by_cases h2 : rung y = 9218868437227405312
    · rw [read_inf h1, read_inf h2, h1, h2]
      cases sgn x <;> cases sgn y <;> rfl
    · have h3 : rung y < 9218868437227405312 := by omega
      rw [read_inf h1, read_fin h3, h1, sg_inf _ h3]; rfl
  · have h4 : rung x < 9218868437227405312 := by omega
    by_cases h2 : rung y = 9218868437227405312
    · rw [read_inf h2, read_fin h4, h2, sg_inf' _ h4]; rfl
    · have h3 : rung y < 9218868437227405312 := by omega
      rw [read_fin h3, read_fin h4, order_scaled, ← val_eq, ← val_eq, cmpI_val]

theorem order_nan_left {x : Nat} (y : Nat) (hx : 9218868437227405312 < rung x) : FloatKind.f64.format.order x y = none := by
  unfold Ieee.Format.order
  rw [read_nan hx]; rfl

theorem order_nan_right (x : Nat) {y : Nat} (hy : 9218868437227405312 < rung y) : FloatKind.f64.format.order x y = none := by
  unfold Ieee.Format.order
  rw [read_nan hy]
  cases FloatKind.f64.format.read x <;> rfl

theorem isN_iff (n : Nat) : isN n = decide (9218868437227405312 < rung n) := by
  unfold isN
  by_cases h : 9218868437227405312 < rung n
  · rw [order_nan_left n h, decide_eq_true h]; rfl
  · rw [order_key (by omega) (by omega), decide_eq_false h]
    unfold cmpI
    rw [if_neg (by omega), if_pos rfl]; rfl

theorem order_lt {x y : Nat} (hx : rung x ≤ 9218868437227405312) (hy : rung y ≤ 9218868437227405312) :
    (FloatKind.f64.format.order x y == some .lt) = decide (key x < key y) := by
  rw [order_key hx hy]; unfold cmpI
  by_cases h : key x < key y
  · rw [if_pos h, decide_eq_true h]; rfl
  · rw [if_neg h, decide_eq_false h]
    by_cases h2 : key x = key y
    · rw [if_pos h2]; rfl
    · rw [if_neg h2]; rfl

theorem order_gt {x y : Nat} (hx : rung x ≤ 9218868437227405312) (hy : rung y ≤ 9218868437227405312) :
    (FloatKind.f64.format.order x y == some .gt) = decide (key y < key x) := by
  rw [order_key hx hy]; unfold cmpI
  by_cases h : key x < key y
  · rw [if_pos h, decide_eq_false (by omega)]; rfl
  · rw [if_neg h]
    by_cases h2 : key x = key y
    · rw [if_pos h2, decide_eq_false (by omega)]; rfl
    · rw [if_neg h2, decide_eq_true (by omega)]; rfl

theorem order_eq {x y : Nat} (hx : rung x ≤ 9218868437227405312) (hy : rung y ≤ 9218868437227405312) :
    (FloatKind.f64.format.order x y == some .eq) = decide (key x = key y) := by
  rw [order_key hx hy]; unfold cmpI
  by_cases h : key x < key y
  · rw [if_pos h, decide_eq_false (by omega)]; rfl
  · rw [if_neg h]
    by_cases h2 : key x = key y
    · rw [if_pos h2, decide_eq_true h2]; rfl
    · rw [if_neg h2, decide_eq_false h2]; rfl

end Go.Proofs.Ytinibccphecdfaa

/-! ROUNDING TO THE NEAREST FLOAT, no Go in sight: what is rounded stays on its side of every float; so a number that is a float is that float. -/
namespace Go.Proofs.Ytinibccphecdfaa

theorem cut_even_le (s : Bool) (n d m : Nat) (h : n ≤ m * 2 ^ d) : Ieee.Toward.even.cut s n d ≤ m := by
  simp only [Ieee.Toward.cut, Nat.shiftLeft_eq, Nat.one_mul]
  by_cases hd : d ≤ n.log2 + 2
  · rw [Nat.min_eq_left hd]
    have p : 0 < 2 ^ d := Nat.two_pow_pos _
    generalize hg : 2 ^ d = g at *
    have hq : n / g ≤ m := Nat.div_le_of_le_mul (by rw [Nat.mul_comm]; exact h)
    have hdm := Nat.div_add_mod n g
    by_cases he : n / g = m
    · have hr : n % g = 0 := by
        rw [he, Nat.mul_comm g m] at hdm
        omega
      rw [hr, he]
      have : (decide (g < 2 * 0) || (g == 2 * 0 && m % 2 == 1)) = false := by
        rw [decide_eq_false (by omega), Bool.false_or, beq_eq_false_iff_ne.mpr (by omega), Bool.false_and]
      rw [this]; exact Nat.le_refl m
    · have : ((decide (g < 2 * (n % g)) || (g == 2 * (n % g) && n / g % 2 == 1)) : Bool).toNat ≤ 1 := Bool.toNat_le _
      omega
  · rw [Nat.min_eq_right (by omega)]
    have hl : n < 2 ^ (n.log2 + 1) := Nat.lt_log2_self
    have e : 2 ^ (n.log2 + 2) = 2 * 2 ^ (n.log2 + 1) := by rw [Nat.pow_succ 2 (n.log2 + 1), Nat.mul_comm]
    generalize hg : 2 ^ (n.log2 + 1) = g at *
    rw [e]
    have q0 : n / (2 * g) = 0 := Nat.div_eq_of_lt (by omega)
    have r0 : n % (2 * g) = n := Nat.mod_eq_of_lt (by omega)
    rw [q0, r0]
    have : (decide (2 * g < 2 * n) || (2 * g == 2 * n && 0 % 2 == 1)) = false := by
      rw [decide_eq_false (by omega), Bool.false_or, beq_eq_false_iff_ne.mpr (by omega), Bool.false_and]
    rw [this]; exact Nat.zero_le m

theorem le_cut_even (s : Bool) (n d m : Nat) (h : m * 2 ^ d ≤ n) : m ≤ Ieee.Toward.even.cut s n d := by
  simp only [Ieee.Toward.cut, Nat.shiftLeft_eq, Nat.one_mul]
  by_cases hd : d ≤ n.log2 + 2
  · rw [Nat.min_eq_left hd]
    have p : 0 < 2 ^ d := Nat.two_pow_pos _
    have hq : m ≤ n / 2 ^ d := (Nat.le_div_iff_mul_le p).mpr h
    omega
  · have hl : n < 2 ^ (n.log2 + 1) := Nat.lt_log2_self
    have hp : 2 ^ (n.log2 + 1) ≤ 2 ^ d := Nat.pow_le_pow_right (by omega) (by omega)
    have : m = 0 := by
      rcases Nat.eq_zero_or_pos m with h0 | h0
      · exact h0
      · have : 1 * 2 ^ d ≤ m * 2 ^ d := Nat.mul_le_mul_right _ h0
        omega
    rw [this]; exact Nat.zero_le _

/-- How far above the least place the last digit that is kept lies; the rung, not capped. -/
def lastUp (X : Nat) (P : Int) : Nat := (max (P + (X.log2 : Int) - 52) (-1074) + 1074).toNat
def nr (X : Nat) (P : Int) : Nat :=
  lastUp X P * 4503599627370496 + Ieee.Toward.even.cut false (X * 2 ^ (P - (-1074 + (lastUp X P : Int))).toNat) (-1074 + (lastUp X P : Int) - P).toNat

/-- The word of a sign and a rung. -/
def wd (s : Bool) (r : Nat) : Nat := if s = true then 9223372036854775808 + r else r

theorem word_wd (s : Bool) (r : Nat) : FloatKind.f64.format.word s r = wd s r := rfl

theorem cut_sign (s t : Bool) (n d : Nat) : Ieee.Toward.even.cut s n d = Ieee.Toward.even.cut t n d := rfl

theorem nearest_eq (s : Bool) (X : Nat) (P : Int) (h : X ≠ 0) : FloatKind.f64.format.nearest s X P = wd s (min (nr X P) 9218868437227405312) := by
  have e : max (P + (X.log2 : Int) - 52) (-1074) = -1074 + (lastUp X P : Int) := by unfold lastUp; omega
  have u : FloatKind.f64.format.nearest s X P = (if X = 0 then wd s 0 else
      wd s (min ((max (P + (X.log2 : Int) - 52) (-1074) - (-1074)).toNat * 4503599627370496 + Ieee.Toward.even.cut s (X <<< (P - max (P + (X.log2 : Int) - 52) (-1074)).toNat) (max (P + (X.log2 : Int) - 52) (-1074) - P).toNat) 9218868437227405312)) := rfl
  rw [u, if_neg h, e, Nat.shiftLeft_eq, cut_sign s false]
  unfold nr
  have e2 : (-1074 + (lastUp X P : Int) - (-1074)).toNat = lastUp X P := by omega
  rw [e2]

theorem nearest_zero (s : Bool) (P : Int) : FloatKind.f64.format.nearest s 0 P = wd s 0 := rfl

theorem mag_lt (r : Nat) : mag r < 9007199254740992 := by unfold mag; split <;> omega
theorem mag_ge {r : Nat} (h : up r ≠ 0) : 4503599627370496 ≤ mag r := by
  unfold up at h; unfold mag
  rw [if_neg (by omega)]; omega
theorem rung_eq (r : Nat) : r = up r * 4503599627370496 + mag r := by
  unfold up mag
  split <;> omega
theorem rung_up_ge {r : Nat} (h : up r ≠ 0) : (up r + 1) * 4503599627370496 ≤ r := by
  unfold up at *; omega

theorem pow_bounds (X : Nat) (h : X ≠ 0) : 2 ^ X.log2 ≤ X ∧ X < 2 ^ (X.log2 + 1) := ⟨Nat.log2_self_le h, Nat.lt_log2_self⟩

/-- What is scaled by two to the i, against what is scaled by two to the j: the two shifts of the rounding. -/
theorem shift_le {X V i j a b : Nat} (hij : i + b = j + a) (hab : a = 0 ∨ b = 0) : X * 2 ^ i ≤ V * 2 ^ j ↔ X * 2 ^ a ≤ V * 2 ^ b := by
  have p : ∀ k, 0 < 2 ^ k := fun k => Nat.two_pow_pos k
  rcases hab with rfl | rfl
  · -- j = i + b
    rw [show j = b + i from by omega, Nat.pow_add, ← Nat.mul_assoc, Nat.pow_zero, Nat.mul_one]
    exact Nat.mul_le_mul_right_iff (p i)
  · rw [show i = a + j from by omega, Nat.pow_add, ← Nat.mul_assoc, Nat.pow_zero, Nat.mul_one]
    exact Nat.mul_le_mul_right_iff (p j)
theorem shift_ge {X V i j a b : Nat} (hij : i + b = j + a) (hab : a = 0 ∨ b = 0) : V * 2 ^ j ≤ X * 2 ^ i ↔ V * 2 ^ b ≤ X * 2 ^ a :=
  shift_le (X := V) (V := X) (by omega) (by omega)

theorem val_lt_pow (r : Nat) : val r < 2 ^ (53 + up r) := by
  rw [val_eq, Nat.pow_add]
  exact Nat.mul_lt_mul_of_pos_right (mag_lt r) (Nat.two_pow_pos _)
theorem val_ge_pow {r : Nat} (h : up r ≠ 0) : 2 ^ (52 + up r) ≤ val r := by
  rw [val_eq, Nat.pow_add]
  exact Nat.mul_le_mul_right _ (mag_ge h)

theorem lastUp_cases (X : Nat) (P : Int) : (lastUp X P : Int) = P + X.log2 - 52 + 1074 ∨ lastUp X P = 0 ∧ P + (X.log2 : Int) - 52 ≤ -1074 := by
  unfold lastUp; omega

/-- X scaled lies below two to the (53 + lastUp); and, if lastUp is not nought, not below two to the (52 + lastUp). -/
theorem scaled_lt {X i j : Nat} {P : Int} (h : X ≠ 0) (hP : P = -1074 + (i : Int) - (j : Int)) : X * 2 ^ i < 2 ^ (53 + lastUp X P + j) := by
  have hb := (pow_bounds X h).2
  have : X * 2 ^ i < 2 ^ (X.log2 + 1) * 2 ^ i := Nat.mul_lt_mul_of_pos_right hb (Nat.two_pow_pos _)
  rw [← Nat.pow_add] at this
  have l := lastUp_cases X P
  exact Nat.lt_of_lt_of_le this (Nat.pow_le_pow_right (by omega) (by omega))
theorem scaled_ge {X i j : Nat} {P : Int} (h : X ≠ 0) (hP : P = -1074 + (i : Int) - (j : Int)) (hu : lastUp X P ≠ 0) : 2 ^ (52 + lastUp X P + j) ≤ X * 2 ^ i := by
  have hb := (pow_bounds X h).1
  have : 2 ^ X.log2 * 2 ^ i ≤ X * 2 ^ i := Nat.mul_le_mul_right _ hb
  rw [← Nat.pow_add] at this
  have l := lastUp_cases X P
  exact Nat.le_trans (Nat.pow_le_pow_right (by omega) (by omega)) this

/-- The digits that are kept, against m. -/
theorem kept_le {X i j : Nat} {P : Int} (hP : P = -1074 + (i : Int) - (j : Int)) (m : Nat) (h : X * 2 ^ i ≤ m * 2 ^ (lastUp X P) * 2 ^ j) :
    Ieee.Toward.even.cut false (X * 2 ^ (P - (-1074 + (lastUp X P : Int))).toNat) (-1074 + (lastUp X P : Int) - P).toNat ≤ m := by
  apply cut_even_le
  rw [Nat.mul_assoc, ← Nat.pow_add] at h
  exact (shift_le (by omega) (by omega)).mp h
theorem le_kept {X i j : Nat} {P : Int} (hP : P = -1074 + (i : Int) - (j : Int)) (m : Nat) (h : m * 2 ^ (lastUp X P) * 2 ^ j ≤ X * 2 ^ i) :
    m ≤ Ieee.Toward.even.cut false (X * 2 ^ (P - (-1074 + (lastUp X P : Int))).toNat) (-1074 + (lastUp X P : Int) - P).toNat := by
  apply le_cut_even
  rw [Nat.mul_assoc, ← Nat.pow_add] at h
  exact (shift_ge (by omega) (by omega)).mp h

theorem kept_max {X i j : Nat} {P : Int} (h0 : X ≠ 0) (hP : P = -1074 + (i : Int) - (j : Int)) :
    Ieee.Toward.even.cut false (X * 2 ^ (P - (-1074 + (lastUp X P : Int))).toNat) (-1074 + (lastUp X P : Int) - P).toNat ≤ 9007199254740992 := by
  refine kept_le (i := i) (j := j) hP _ ?_
  have := scaled_lt h0 hP
  rw [Nat.pow_add, Nat.pow_add] at this
  exact Nat.le_of_lt this
theorem kept_min {X i j : Nat} {P : Int} (h0 : X ≠ 0) (hP : P = -1074 + (i : Int) - (j : Int)) (hu : lastUp X P ≠ 0) :
    4503599627370496 ≤ Ieee.Toward.even.cut false (X * 2 ^ (P - (-1074 + (lastUp X P : Int))).toNat) (-1074 + (lastUp X P : Int) - P).toNat := by
  refine le_kept (i := i) (j := j) hP _ ?_
  have := scaled_ge h0 hP hu
  rw [Nat.pow_add, Nat.pow_add] at this
  exact this

/-- WHAT IS NOT ABOVE A FLOAT IS NOT ROUNDED ABOVE IT. -/
theorem near_le {X i j r : Nat} {P : Int} (h0 : X ≠ 0) (hP : P = -1074 + (i : Int) - (j : Int)) (h : X * 2 ^ i ≤ val r * 2 ^ j) : nr X P ≤ r := by
  have km := kept_max (i := i) (j := j) h0 hP
  have re := rung_eq r
  unfold nr
  rcases Nat.lt_trichotomy (up r) (lastUp X P) with hlt | heq | hgt
  · exfalso
    have a := scaled_ge h0 hP (by omega)
    have b := val_lt_pow r
    have c : 2 ^ (53 + up r) ≤ 2 ^ (52 + lastUp X P) := Nat.pow_le_pow_right (by omega) (by omega)
    rw [Nat.pow_add 2 (52 + lastUp X P) j] at a
    have d : val r * 2 ^ j < 2 ^ (52 + lastUp X P) * 2 ^ j := Nat.mul_lt_mul_of_pos_right (Nat.lt_of_lt_of_le b c) (Nat.two_pow_pos _)
    omega
  · have := kept_le (i := i) (j := j) hP (mag r) (by rw [← heq, ← val_eq]; exact h)
    rw [← heq] at this ⊢
    omega
  · have g := rung_up_ge (r := r) (by omega)
    have : (lastUp X P + 2) * 4503599627370496 ≤ (up r + 1) * 4503599627370496 := Nat.mul_le_mul_right _ (by omega)
    omega

/-- WHAT IS NOT BELOW A FLOAT IS NOT ROUNDED BELOW IT. -/
theorem near_ge {X i j r : Nat} {P : Int} (h0 : X ≠ 0) (hP : P = -1074 + (i : Int) - (j : Int)) (h : val r * 2 ^ j ≤ X * 2 ^ i) : r ≤ nr X P := by
  have re := rung_eq r
  have ml := mag_lt r
  unfold nr
  rcases Nat.lt_trichotomy (up r) (lastUp X P) with hlt | heq | hgt
  · have km := kept_min (i := i) (j := j) h0 hP (by omega)
    have : (up r + 1) * 4503599627370496 ≤ lastUp X P * 4503599627370496 := Nat.mul_le_mul_right _ (by omega)
    omega
  · have := le_kept (i := i) (j := j) hP (mag r) (by rw [← heq, ← val_eq]; exact h)
    rw [← heq] at this ⊢
    omega
  · exfalso
    have a := scaled_lt h0 hP
    have b := val_ge_pow (r := r) (by omega)
    have c : 2 ^ (53 + lastUp X P) ≤ 2 ^ (52 + up r) := Nat.pow_le_pow_right (by omega) (by omega)
    rw [Nat.pow_add 2 (53 + lastUp X P) j] at a
    have d : 2 ^ (53 + lastUp X P) * 2 ^ j ≤ val r * 2 ^ j := Nat.mul_le_mul_right _ (Nat.le_trans c b)
    omega

/-- A NUMBER THAT IS A FLOAT IS ROUNDED TO THAT FLOAT. -/
theorem near_exact {X i j r : Nat} {P : Int} (s : Bool) (hr : r < 9218868437227405312) (hP : P = -1074 + (i : Int) - (j : Int)) (h : X * 2 ^ i = val r * 2 ^ j) :
    FloatKind.f64.format.nearest s X P = wd s r := by
  by_cases h0 : X = 0
  · subst h0
    have : val r = 0 := by
      rw [Nat.zero_mul] at h
      rcases Nat.mul_eq_zero.mp h.symm with h | h
      · exact h
      · exact absurd h (Nat.ne_of_gt (Nat.two_pow_pos _))
    have : r = 0 := val_inj (by rw [this]; rfl)
    rw [this, nearest_zero]
  · rw [nearest_eq s X P h0]
    have a := near_le h0 hP (Nat.le_of_eq h)
    have b := near_ge h0 hP (Nat.le_of_eq h.symm)
    have : nr X P = r := by omega
    rw [this, Nat.min_eq_left (by omega)]

/-- Every product of a number below two to the 53 by a power of two is a float, if it is not too great. -/
theorem repr (m u : Nat) (hm : m < 9007199254740992) (hu : u ≤ 2045) : ∃ r, r < 9218868437227405312 ∧ val r = m * 2 ^ u := by
  by_cases h : 4503599627370496 ≤ m
  · refine ⟨u * 4503599627370496 + m, by omega, ?_⟩
    unfold val
    rw [if_neg (by omega)]
    have e1 : (u * 4503599627370496 + m) / 4503599627370496 - 1 = u := by omega
    have e2 : 4503599627370496 + (u * 4503599627370496 + m) % 4503599627370496 = m := by omega
    rw [e1, e2]
  · induction u generalizing m with
    | zero =>
      refine ⟨m, by omega, ?_⟩
      unfold val
      rw [if_pos (by omega), Nat.pow_zero, Nat.mul_one]
    | succ k ih =>
      by_cases h2 : 4503599627370496 ≤ 2 * m
      · refine ⟨k * 4503599627370496 + 2 * m, by omega, ?_⟩
        unfold val
        rw [if_neg (by omega)]
        have e1 : (k * 4503599627370496 + 2 * m) / 4503599627370496 - 1 = k := by omega
        have e2 : 4503599627370496 + (k * 4503599627370496 + 2 * m) % 4503599627370496 = 2 * m := by omega
        rw [e1, e2, Nat.pow_succ, Nat.mul_comm (2 ^ k) 2, ← Nat.mul_assoc, Nat.mul_comm m 2]
      · obtain ⟨r, hr, e⟩ := ih (2 * m) (by omega) (by omega) h2
        refine ⟨r, hr, ?_⟩
        rw [e, Nat.pow_succ, Nat.mul_comm (2 ^ k) 2, ← Nat.mul_assoc, Nat.mul_comm m 2]

end Go.Proofs.Ytinibccphecdfaa

/-! THE CONTRACTS OF THE SMALL FUNCTIONS OF PACKAGE word AND OF THE DOCUMENT'S OWN FLOATS: what each call returns, as a plain function of its arguments; a call may draw from the tape (the bits of a NaN), and turns nothing else. -/
namespace Go.Proofs.Ytinibccphecdfaa
open Go.RowKit
set_option maxRecDepth 8000

/-- A word as bits; bits as a word. -/
def U (a : Int) : Nat := (IntKind.u64.wrap a).toNat
def S (n : Nat) : Int := wrap64 (n : Int)
/-- The NaN's word. -/
def NAN : Int := 9221120237041090561
def toW (n : Nat) : Int := if isN n = true then NAN else S n
def fop (o : BinOp) (a b : Int) : Int :=
  match floatBits o .f64 (U a) (U b) with
  | some r => toW r
  | none => NAN

theorem frombits_run (x : Int) (w : World) : (callFunc 74 #[.int .u64 x]).run Try.prog w = .ok (.value (.float .f64 x.toNat)) w := by kernel_rfl
theorem bits_run (n : Nat) (w : World) : (callFunc 73 #[.float .f64 n]).run Try.prog w = .ok (.value (.int .u64 (n : Int))) w := by kernel_rfl

theorem nan_cut (x y t : Nat) : isN ((Question.nanBits .f64 x y).cut t) = true := by
  rw [isN_iff]
  apply decide_eq_true
  simp only [Question.cut, rung]
  have h : t % 2 = 0 ∨ t % 2 = 1 := by omega
  have hl : t / 2 % (2 ^ 52 - 1) < 4503599627370495 := Nat.mod_lt _ (by decide)
  rcases h with h | h <;> rw [h] <;> omega

/-- An operation that has no answer: a NaN off the tape. -/
theorem run_float_none {P : Program} (w : World) (op : BinOp) (t : TypeId) (x y : Nat) (h : floatBits op .f64 x y = none) (ho : op = .add ∨ op = .sub ∨ op = .mul ∨ op = .quo) :
    ∃ r, isN r = true ∧ (binOp op t (.float .f64 x) (.float .f64 y)).run P w = .ok (.float .f64 r) w.drew := by
  refine ⟨(Question.nanBits .f64 x y).cut (w.tape w.drawn (.nanBits .f64 x y)), nan_cut _ _ _, ?_⟩
  unfold floatBits at h
  rcases ho with rfl | rfl | rfl | rfl <;> simp only at h <;> simp [binOp, Op.floatArith, h, go_sem] <;> rfl

set_option maxHeartbeats 400000 in
theorem word_toFloat_any (a : Int) (w : World) :
    Calls Try.prog 98 #[.int .i64 a] w fun e w' => e = .returned (.float .f64 (U a)) ∧ w' = w := by
  have hf := frombits_run
  go_enter Try.func98, Try.ntmps98
  go_wp2
  go_ret
  exact ⟨rfl, rfl⟩

set_option maxHeartbeats 400000 in
theorem isNaN_any (n : Nat) (w : World) :
    Calls Try.prog 99 #[.float .f64 n] w fun e w' => e = .returned (.bool (isN n)) ∧ w' = w := by
  go_enter Try.func99, Try.ntmps99
  go_wp2
  go_ret
  exact ⟨rfl, rfl⟩

set_option maxHeartbeats 400000 in
theorem word_toWord_any (n : Nat) (w : World) :
    Calls Try.prog 87 #[.float .f64 n] w fun e w' => e = .returned (.int .i64 (toW n)) ∧ w' = w := by
  have hf := bits_run
  unfold toW
  by_cases h : isN n = true
  · rw [if_pos h]
    go_enter Try.func87, Try.ntmps87
    go_wp2_with (go_at_call 99; refine (isNaN_any _ _).mono ?_; rintro e w' ⟨rfl, rfl⟩)
    go_ret
    exact ⟨rfl, rfl⟩
  · rw [if_neg h]
    have h' : isN n = false := by simpa using h
    go_enter Try.func87, Try.ntmps87
    go_wp2_with (go_at_call 99; refine (isNaN_any _ _).mono ?_; rintro e w' ⟨rfl, rfl⟩)
    go_ret
    exact ⟨rfl, rfl⟩


set_option maxHeartbeats 400000 in
theorem donjonref1_float_any (a : Int) (w : World) :
    Calls Try.prog 48 #[.int .i64 a] w fun e w' => e = .returned (.float .f64 (U a)) ∧ w' = w := by
  have hf := frombits_run
  go_enter Try.func48, Try.ntmps48
  go_wp2
  go_ret
  exact ⟨rfl, rfl⟩

set_option maxHeartbeats 400000 in
theorem donjonref1_bits_any (n : Nat) (w : World) :
    Calls Try.prog 47 #[.float .f64 n] w fun e w' => e = .returned (.int .i64 (toW n)) ∧ w' = w := by
  have hf := bits_run
  unfold toW
  by_cases h : isN n = true
  · rw [if_pos h]
    have h' : (FloatKind.f64.format.order n n != some .eq) = true := h
    go_enter Try.func47, Try.ntmps47
    go_wp2
    go_ret
    exact ⟨rfl, rfl⟩
  · rw [if_neg h]
    have h' : (FloatKind.f64.format.order n n != some .eq) = false := (Bool.not_eq_true _).mp h
    go_enter Try.func47, Try.ntmps47
    go_wp2
    go_ret
    exact ⟨rfl, rfl⟩

set_option maxHeartbeats 400000 in
theorem word_FAdd_any (a b : Int) (w : World) :
    Calls Try.prog 82 #[.int .i64 a, .int .i64 b] w fun e w' => e = .returned (.int .i64 (fop .add a b)) ∧ ∃ n, w' = w.drewN n := by
  unfold fop
  cases h : floatBits .add .f64 (U a) (U b) with
  | none =>
    obtain ⟨r, hr, hrun⟩ := run_float_none (P := Try.prog) w .add 109 (U a) (U b) h (by simp)
    go_enter Try.func82, Try.ntmps82
    go_wp2_with (first | (go_at_call 98; refine (word_toFloat_any _ _).mono ?_; rintro e w' ⟨rfl, rfl⟩) | (go_at_call 87; refine (word_toWord_any _ _).mono ?_; rintro e w' ⟨rfl, rfl⟩))
    go_ret
    exact ⟨by simp [toW, hr], 1, rfl⟩
  | some r =>
    have hrun := fun w => run_float_arith (P := Try.prog) w .add 109 .f64 (U a) (U b) r h
    go_enter Try.func82, Try.ntmps82
    go_wp2_with (first | (go_at_call 98; refine (word_toFloat_any _ _).mono ?_; rintro e w' ⟨rfl, rfl⟩) | (go_at_call 87; refine (word_toWord_any _ _).mono ?_; rintro e w' ⟨rfl, rfl⟩))
    go_ret
    exact ⟨rfl, 0, rfl⟩

set_option maxHeartbeats 400000 in
theorem donjonref1_FAdd_any (a b : Int) (w : World) :
    Calls Try.prog 22 #[.int .i64 a, .int .i64 b] w fun e w' => e = .returned (.int .i64 (fop .add a b)) ∧ ∃ n, w' = w.drewN n := by
  unfold fop
  cases h : floatBits .add .f64 (U a) (U b) with
  | none =>
    obtain ⟨r, hr, hrun⟩ := run_float_none (P := Try.prog) w .add 109 (U a) (U b) h (by simp)
    go_enter Try.func22, Try.ntmps22
    go_wp2_with (first | (go_at_call 48; refine (donjonref1_float_any _ _).mono ?_; rintro e w' ⟨rfl, rfl⟩) | (go_at_call 47; refine (donjonref1_bits_any _ _).mono ?_; rintro e w' ⟨rfl, rfl⟩))
    go_ret
    exact ⟨by simp [toW, hr], 1, rfl⟩
  | some r =>
    have hrun := fun w => run_float_arith (P := Try.prog) w .add 109 .f64 (U a) (U b) r h
    go_enter Try.func22, Try.ntmps22
    go_wp2_with (first | (go_at_call 48; refine (donjonref1_float_any _ _).mono ?_; rintro e w' ⟨rfl, rfl⟩) | (go_at_call 47; refine (donjonref1_bits_any _ _).mono ?_; rintro e w' ⟨rfl, rfl⟩))
    go_ret
    exact ⟨rfl, 0, rfl⟩

set_option maxHeartbeats 400000 in
theorem word_FSub_any (a b : Int) (w : World) :
    Calls Try.prog 83 #[.int .i64 a, .int .i64 b] w fun e w' => e = .returned (.int .i64 (fop .sub a b)) ∧ ∃ n, w' = w.drewN n := by
  unfold fop
  cases h : floatBits .sub .f64 (U a) (U b) with
  | none =>
    obtain ⟨r, hr, hrun⟩ := run_float_none (P := Try.prog) w .sub 109 (U a) (U b) h (by simp)
    go_enter Try.func83, Try.ntmps83
    go_wp2_with (first | (go_at_call 98; refine (word_toFloat_any _ _).mono ?_; rintro e w' ⟨rfl, rfl⟩) | (go_at_call 87; refine (word_toWord_any _ _).mono ?_; rintro e w' ⟨rfl, rfl⟩))
    go_ret
    exact ⟨by simp [toW, hr], 1, rfl⟩
  | some r =>
    have hrun := fun w => run_float_arith (P := Try.prog) w .sub 109 .f64 (U a) (U b) r h
    go_enter Try.func83, Try.ntmps83
    go_wp2_with (first | (go_at_call 98; refine (word_toFloat_any _ _).mono ?_; rintro e w' ⟨rfl, rfl⟩) | (go_at_call 87; refine (word_toWord_any _ _).mono ?_; rintro e w' ⟨rfl, rfl⟩))
    go_ret
    exact ⟨rfl, 0, rfl⟩

set_option maxHeartbeats 400000 in
theorem donjonref1_FSub_any (a b : Int) (w : World) :
    Calls Try.prog 23 #[.int .i64 a, .int .i64 b] w fun e w' => e = .returned (.int .i64 (fop .sub a b)) ∧ ∃ n, w' = w.drewN n := by
  unfold fop
  cases h : floatBits .sub .f64 (U a) (U b) with
  | none =>
    obtain ⟨r, hr, hrun⟩ := run_float_none (P := Try.prog) w .sub 109 (U a) (U b) h (by simp)
    go_enter Try.func23, Try.ntmps23
    go_wp2_with (first | (go_at_call 48; refine (donjonref1_float_any _ _).mono ?_; rintro e w' ⟨rfl, rfl⟩) | (go_at_call 47; refine (donjonref1_bits_any _ _).mono ?_; rintro e w' ⟨rfl, rfl⟩))
    go_ret
    exact ⟨by simp [toW, hr], 1, rfl⟩
  | some r =>
    have hrun := fun w => run_float_arith (P := Try.prog) w .sub 109 .f64 (U a) (U b) r h
    go_enter Try.func23, Try.ntmps23
    go_wp2_with (first | (go_at_call 48; refine (donjonref1_float_any _ _).mono ?_; rintro e w' ⟨rfl, rfl⟩) | (go_at_call 47; refine (donjonref1_bits_any _ _).mono ?_; rintro e w' ⟨rfl, rfl⟩))
    go_ret
    exact ⟨rfl, 0, rfl⟩

set_option maxHeartbeats 400000 in
theorem word_FMul_any (a b : Int) (w : World) :
    Calls Try.prog 84 #[.int .i64 a, .int .i64 b] w fun e w' => e = .returned (.int .i64 (fop .mul a b)) ∧ ∃ n, w' = w.drewN n := by
  unfold fop
  cases h : floatBits .mul .f64 (U a) (U b) with
  | none =>
    obtain ⟨r, hr, hrun⟩ := run_float_none (P := Try.prog) w .mul 109 (U a) (U b) h (by simp)
    go_enter Try.func84, Try.ntmps84
    go_wp2_with (first | (go_at_call 98; refine (word_toFloat_any _ _).mono ?_; rintro e w' ⟨rfl, rfl⟩) | (go_at_call 87; refine (word_toWord_any _ _).mono ?_; rintro e w' ⟨rfl, rfl⟩))
    go_ret
    exact ⟨by simp [toW, hr], 1, rfl⟩
  | some r =>
    have hrun := fun w => run_float_arith (P := Try.prog) w .mul 109 .f64 (U a) (U b) r h
    go_enter Try.func84, Try.ntmps84
    go_wp2_with (first | (go_at_call 98; refine (word_toFloat_any _ _).mono ?_; rintro e w' ⟨rfl, rfl⟩) | (go_at_call 87; refine (word_toWord_any _ _).mono ?_; rintro e w' ⟨rfl, rfl⟩))
    go_ret
    exact ⟨rfl, 0, rfl⟩

set_option maxHeartbeats 400000 in
theorem donjonref1_FMul_any (a b : Int) (w : World) :
    Calls Try.prog 24 #[.int .i64 a, .int .i64 b] w fun e w' => e = .returned (.int .i64 (fop .mul a b)) ∧ ∃ n, w' = w.drewN n := by
  unfold fop
  cases h : floatBits .mul .f64 (U a) (U b) with
  | none =>
    obtain ⟨r, hr, hrun⟩ := run_float_none (P := Try.prog) w .mul 109 (U a) (U b) h (by simp)
    go_enter Try.func24, Try.ntmps24
    go_wp2_with (first | (go_at_call 48; refine (donjonref1_float_any _ _).mono ?_; rintro e w' ⟨rfl, rfl⟩) | (go_at_call 47; refine (donjonref1_bits_any _ _).mono ?_; rintro e w' ⟨rfl, rfl⟩))
    go_ret
    exact ⟨by simp [toW, hr], 1, rfl⟩
  | some r =>
    have hrun := fun w => run_float_arith (P := Try.prog) w .mul 109 .f64 (U a) (U b) r h
    go_enter Try.func24, Try.ntmps24
    go_wp2_with (first | (go_at_call 48; refine (donjonref1_float_any _ _).mono ?_; rintro e w' ⟨rfl, rfl⟩) | (go_at_call 47; refine (donjonref1_bits_any _ _).mono ?_; rintro e w' ⟨rfl, rfl⟩))
    go_ret
    exact ⟨rfl, 0, rfl⟩

set_option maxHeartbeats 400000 in
theorem word_FDiv_any (a b : Int) (w : World) :
    Calls Try.prog 85 #[.int .i64 a, .int .i64 b] w fun e w' => e = .returned (.int .i64 (fop .quo a b)) ∧ ∃ n, w' = w.drewN n := by
  unfold fop
  cases h : floatBits .quo .f64 (U a) (U b) with
  | none =>
    obtain ⟨r, hr, hrun⟩ := run_float_none (P := Try.prog) w .quo 109 (U a) (U b) h (by simp)
    go_enter Try.func85, Try.ntmps85
    go_wp2_with (first | (go_at_call 98; refine (word_toFloat_any _ _).mono ?_; rintro e w' ⟨rfl, rfl⟩) | (go_at_call 87; refine (word_toWord_any _ _).mono ?_; rintro e w' ⟨rfl, rfl⟩))
    go_ret
    exact ⟨by simp [toW, hr], 1, rfl⟩
  | some r =>
    have hrun := fun w => run_float_arith (P := Try.prog) w .quo 109 .f64 (U a) (U b) r h
    go_enter Try.func85, Try.ntmps85
    go_wp2_with (first | (go_at_call 98; refine (word_toFloat_any _ _).mono ?_; rintro e w' ⟨rfl, rfl⟩) | (go_at_call 87; refine (word_toWord_any _ _).mono ?_; rintro e w' ⟨rfl, rfl⟩))
    go_ret
    exact ⟨rfl, 0, rfl⟩

set_option maxHeartbeats 400000 in
theorem donjonref1_FDiv_any (a b : Int) (w : World) :
    Calls Try.prog 25 #[.int .i64 a, .int .i64 b] w fun e w' => e = .returned (.int .i64 (fop .quo a b)) ∧ ∃ n, w' = w.drewN n := by
  unfold fop
  cases h : floatBits .quo .f64 (U a) (U b) with
  | none =>
    obtain ⟨r, hr, hrun⟩ := run_float_none (P := Try.prog) w .quo 109 (U a) (U b) h (by simp)
    go_enter Try.func25, Try.ntmps25
    go_wp2_with (first | (go_at_call 48; refine (donjonref1_float_any _ _).mono ?_; rintro e w' ⟨rfl, rfl⟩) | (go_at_call 47; refine (donjonref1_bits_any _ _).mono ?_; rintro e w' ⟨rfl, rfl⟩))
    go_ret
    exact ⟨by simp [toW, hr], 1, rfl⟩
  | some r =>
    have hrun := fun w => run_float_arith (P := Try.prog) w .quo 109 .f64 (U a) (U b) r h
    go_enter Try.func25, Try.ntmps25
    go_wp2_with (first | (go_at_call 48; refine (donjonref1_float_any _ _).mono ?_; rintro e w' ⟨rfl, rfl⟩) | (go_at_call 47; refine (donjonref1_bits_any _ _).mono ?_; rintro e w' ⟨rfl, rfl⟩))
    go_ret
    exact ⟨rfl, 0, rfl⟩

set_option maxHeartbeats 400000 in
theorem word_FromInt_any (a : Int) (w : World) :
    Calls Try.prog 55 #[.int .i64 a] w fun e w' => e = .returned (.int .i64 (toW (floatOfInt .f64 a))) ∧ w' = w := by
  go_enter Try.func55, Try.ntmps55
  go_wp2_with (go_at_call 87; refine (word_toWord_any _ _).mono ?_; rintro e w' ⟨rfl, rfl⟩)
  go_ret
  exact ⟨rfl, rfl⟩

set_option maxHeartbeats 400000 in
theorem donjonref1_FromInt_any (a : Int) (w : World) :
    Calls Try.prog 27 #[.int .i64 a] w fun e w' => e = .returned (.int .i64 (toW (floatOfInt .f64 a))) ∧ w' = w := by
  go_enter Try.func27, Try.ntmps27
  go_wp2_with (go_at_call 47; refine (donjonref1_bits_any _ _).mono ?_; rintro e w' ⟨rfl, rfl⟩)
  go_ret
  exact ⟨rfl, rfl⟩

set_option maxHeartbeats 400000 in
theorem word_Add_any (a b : Int) (w : World) :
    Calls Try.prog 79 #[.int .i64 a, .int .i64 b] w fun e w' => e = .returned (.int .i64 (wrap64 (a + b))) ∧ w' = w := by
  go_enter Try.func79, Try.ntmps79
  go_wp2
  go_ret
  exact ⟨rfl, rfl⟩

set_option maxHeartbeats 400000 in
theorem word_Sub_any (a b : Int) (w : World) :
    Calls Try.prog 80 #[.int .i64 a, .int .i64 b] w fun e w' => e = .returned (.int .i64 (wrap64 (a - b))) ∧ w' = w := by
  go_enter Try.func80, Try.ntmps80
  go_wp2
  go_ret
  exact ⟨rfl, rfl⟩

set_option maxHeartbeats 400000 in
theorem word_Mul_any (a b : Int) (w : World) :
    Calls Try.prog 81 #[.int .i64 a, .int .i64 b] w fun e w' => e = .returned (.int .i64 (wrap64 (a * b))) ∧ w' = w := by
  go_enter Try.func81, Try.ntmps81
  go_wp2
  go_ret
  exact ⟨rfl, rfl⟩

theorem grown_drewN (w : World) (n : Nat) : Grown w (w.drewN n) := by
  induction n with
  | zero => exact Grown.refl _
  | succ k ih => exact Grown.drew ih

theorem known1 : fop .quo 4607182418800017408 (-9223372036854775808) = -4503599627370496 := by decide +kernel
theorem known2 : fop .add 9218868437227405312 (-4503599627370496) = 9221120237041090561 := by decide +kernel

end Go.Proofs.Ytinibccphecdfaa

/-! THE CONTRACTS OF FLess, Class, FMax AND ToInt, of the program and of the document's own floats: by the rung of a word, all bits but its sign. -/
namespace Go.Proofs.Ytinibccphecdfaa
open Go.RowKit
set_option maxRecDepth 8000

theorem U_lt (a : Int) : U a < 18446744073709551616 := by unfold U; rw [IntKind.wrap_u64]; omega
theorem rung_lt (n : Nat) : rung n < 9223372036854775808 := by unfold rung; omega
theorem rung_rung (n : Nat) : rung (rung n) = rung n := by unfold rung; omega
theorem sgn_rung (n : Nat) : sgn (rung n) = false := by
  unfold sgn rung
  rw [Nat.div_eq_of_lt (Nat.mod_lt _ (by decide))]; rfl
theorem key_rung (n : Nat) : key (rung n) = (rung n : Int) := by
  unfold key; rw [sgn_rung, rung_rung]; rfl

/-- A word in range, by its bits. -/
theorem U_pos {a : Int} (h0 : 0 ≤ a) (h1 : a ≤ 9223372036854775807) : (U a : Int) = a ∧ sgn (U a) = false ∧ (rung (U a) : Int) = a := by
  have e : (U a : Int) = a := by unfold U; rw [IntKind.wrap_u64]; omega
  have r : (rung (U a) : Int) = a := by unfold rung; omega
  refine ⟨e, ?_, r⟩
  unfold sgn
  rw [Nat.div_eq_of_lt (by omega)]; rfl
theorem U_neg {a : Int} (h0 : a < 0) (h1 : -9223372036854775808 ≤ a) : (U a : Int) = a + 18446744073709551616 ∧ sgn (U a) = true ∧ (rung (U a) : Int) = a + 9223372036854775808 := by
  have e : (U a : Int) = a + 18446744073709551616 := by unfold U; rw [IntKind.wrap_u64]; omega
  have r : (rung (U a) : Int) = a + 9223372036854775808 := by unfold rung; omega
  refine ⟨e, ?_, r⟩
  unfold sgn
  have : U a / 9223372036854775808 = 1 := by omega
  rw [this]; rfl
theorem sgn_U {a : Int} (h0 : -9223372036854775808 ≤ a) (h1 : a ≤ 9223372036854775807) : sgn (U a) = decide (a < 0) := by
  by_cases h : a < 0
  · rw [(U_neg h h0).2.1, decide_eq_true h]
  · rw [(U_pos (by omega) h1).2.1, decide_eq_false h]
theorem S_U {a : Int} (h0 : -9223372036854775808 ≤ a) (h1 : a ≤ 9223372036854775807) : S (U a) = a := by
  unfold S U wrap64; rw [IntKind.wrap_u64]; omega
theorem U_inj {a b : Int} (a0 : -9223372036854775808 ≤ a) (a1 : a ≤ 9223372036854775807) (b0 : -9223372036854775808 ≤ b) (b1 : b ≤ 9223372036854775807) (h : U a = U b) : a = b := by
  rw [← S_U a0 a1, ← S_U b0 b1, h]
/-- A word from its sign and rung. -/
theorem word_split (n : Nat) (h : n < 18446744073709551616) : n = (if sgn n = true then 9223372036854775808 else 0) + rung n := by
  have hq : n / 9223372036854775808 = 0 ∨ n / 9223372036854775808 = 1 := by omega
  unfold sgn rung
  rcases hq with hq | hq <;> rw [hq] <;> simp <;> omega

theorem beq_cases (x y : Int) : x = y ∧ (x == y) = true ∨ x ≠ y ∧ (x == y) = false := by
  by_cases h : x = y
  · left; exact ⟨h, by rw [h]; exact beq_self_eq_true y⟩
  · right; exact ⟨h, beq_eq_false_iff_ne.mpr h⟩

theorem wf64 {a : Int} (h : (Lit.int .i64 a).wf = true) : -9223372036854775808 ≤ a ∧ a ≤ 9223372036854775807 := by
  simpa [Lit.wf, IntKind.min, IntKind.max, IntKind.bits, IntKind.signed] using h

theorem xor_top (x : Nat) (h : x < 9223372036854775808) : x ^^^ 9223372036854775808 = 9223372036854775808 + x := by
  apply Nat.eq_of_testBit_eq
  intro i
  rw [Nat.testBit_xor]
  have e : (9223372036854775808 : Nat) = 2 ^ 63 := rfl
  rw [e, Nat.testBit_two_pow]
  by_cases h1 : i = 63
  · subst h1
    rw [Nat.testBit_two_pow_add_eq]; simp
  · by_cases h2 : i < 63
    · rw [Nat.testBit_two_pow_add_gt h2, decide_eq_false (by omega), Bool.xor_false]
    · have l1 : x < 2 ^ i := Nat.lt_of_lt_of_le h (e ▸ Nat.pow_le_pow_right (by omega) (by omega))
      have l3 : 2 ^ 64 ≤ 2 ^ i := Nat.pow_le_pow_right (by omega) (by omega)
      have l2 : 2 ^ 63 + x < 2 ^ i := by omega
      rw [Nat.testBit_lt_two_pow l1, Nat.testBit_lt_two_pow l2, decide_eq_false (by omega), Bool.xor_false]
theorem xor_top' (x : Nat) (h : x < 18446744073709551616) : x ^^^ 9223372036854775808 = if x < 9223372036854775808 then 9223372036854775808 + x else x - 9223372036854775808 := by
  by_cases h1 : x < 9223372036854775808
  · rw [if_pos h1, xor_top x h1]
  · rw [if_neg h1]
    obtain ⟨y, rfl⟩ : ∃ y, x = 9223372036854775808 + y := ⟨x - 9223372036854775808, by omega⟩
    rw [← xor_top y (by omega), Nat.xor_assoc, Nat.xor_self, Nat.xor_zero, xor_top y (by omega)]; omega
theorem ofInt_U (a : Int) : (BitVec.ofInt 64 a).toNat = U a := by
  unfold U
  rw [BitVec.toNat_ofInt, IntKind.wrap_u64]
  rfl
theorem wrap64_i (z : Int) : IntKind.i64.wrap z = wrap64 z := by rw [IntKind.wrap_i64, wrap64]
theorem xor_sign {a : Int} (h0 : -9223372036854775808 ≤ a) (h1 : a ≤ 9223372036854775807) :
    bits .xor .i64 a (-9223372036854775808) = if a < 0 then a + 9223372036854775808 else a - 9223372036854775808 := by
  have e : bits .xor .i64 a (-9223372036854775808) = wrap64 (((BitVec.ofInt 64 a).toNat ^^^ (BitVec.ofInt 64 (-9223372036854775808)).toNat : Nat) : Int) := by
    have e0 : bits .xor .i64 a (-9223372036854775808) = IntKind.i64.wrap (((BitVec.ofInt 64 a).toNat ^^^ (BitVec.ofInt 64 (-9223372036854775808)).toNat : Nat) : Int) :=
      congrArg (fun n : Nat => IntKind.i64.wrap (n : Int)) (BitVec.toNat_xor (BitVec.ofInt 64 a) (BitVec.ofInt 64 (-9223372036854775808)))
    rw [e0, wrap64_i]
  rw [e, ofInt_U, show (BitVec.ofInt 64 (-9223372036854775808)).toNat = 9223372036854775808 from by decide +kernel, xor_top' _ (by unfold U; rw [IntKind.wrap_u64]; omega)]
  unfold wrap64 U
  rw [IntKind.wrap_u64]
  split <;> split <;> omega

/-- Less, the class, the greater one, by rungs. -/
def less (a b : Int) : Int :=
  if 9218868437227405312 < rung (U a) then 2 else if 9218868437227405312 < rung (U b) then 2 else if key (U a) < key (U b) then 1 else 0
def cls (a : Int) : Int :=
  if 9218868437227405312 < rung (U a) then 0 else if rung (U a) = 9218868437227405312 then 1 else if rung (U a) = 0 then 4 else if rung (U a) < 4503599627370496 then 3 else 2
def fmax (a b : Int) : Int :=
  if less a b = 2 then NAN else if less a b = 1 then b else if less b a = 1 then a else bits .and .i64 a b

theorem andNot_rung (n : Nat) (h : n < 18446744073709551616) : (bits .andNot .u64 (n : Int) 9223372036854775808).toNat = rung n := by
  have e := u64_andNot_nat n 9223372036854775808 h (by decide)
  have e2 : n &&& 9223372036854775807 = n % 9223372036854775808 := Nat.and_two_pow_sub_one_eq_mod n 63
  rw [show ((9223372036854775808 : Nat) : Int) = 9223372036854775808 from rfl] at e
  rw [e, Int.toNat_natCast]
  exact e2

/-- The sign turned: the rung stays. -/
theorem xor_parts {a : Int} (h0 : -9223372036854775808 ≤ a) (h1 : a ≤ 9223372036854775807) :
    -9223372036854775808 ≤ bits .xor .i64 a (-9223372036854775808) ∧ bits .xor .i64 a (-9223372036854775808) ≤ 9223372036854775807 ∧
    rung (U (bits .xor .i64 a (-9223372036854775808))) = rung (U a) ∧ sgn (U (bits .xor .i64 a (-9223372036854775808))) = !sgn (U a) := by
  rw [xor_sign h0 h1]
  by_cases h : a < 0
  · rw [if_pos h]
    have e1 := U_neg h h0
    have e2 := @U_pos (a + 9223372036854775808) (by omega) (by omega)
    refine ⟨by omega, by omega, by omega, ?_⟩
    rw [e1.2.1, e2.2.1]; rfl
  · rw [if_neg h]
    have e1 := @U_pos a (by omega) h1
    have e2 := @U_neg (a - 9223372036854775808) (by omega) (by omega)
    refine ⟨by omega, by omega, by omega, ?_⟩
    rw [e1.2.1, e2.2.1]; rfl
theorem cls_range (a : Int) : 0 ≤ cls a ∧ cls a ≤ 4 := by
  unfold cls
  repeat' split
  all_goals omega
theorem cls_xor {a : Int} (h0 : -9223372036854775808 ≤ a) (h1 : a ≤ 9223372036854775807) : cls (bits .xor .i64 a (-9223372036854775808)) = cls a := by
  unfold cls
  rw [(xor_parts h0 h1).2.2.1]
theorem cls_four {a : Int} : cls a = 4 ↔ rung (U a) = 0 := by
  unfold cls
  repeat' split
  all_goals omega
theorem cls_zero {a : Int} : cls a = 0 ↔ 9218868437227405312 < rung (U a) := by
  unfold cls
  repeat' split
  all_goals omega
theorem cls_one {a : Int} : cls a = 1 ↔ rung (U a) = 9218868437227405312 := by
  unfold cls
  repeat' split
  all_goals omega
theorem rung_zero {a : Int} (h0 : -9223372036854775808 ≤ a) (h1 : a ≤ 9223372036854775807) : rung (U a) = 0 ↔ a = 0 ∨ a = -9223372036854775808 := by
  by_cases h : a < 0
  · have := U_neg h h0; omega
  · have := @U_pos a (by omega) h1; omega


set_option maxHeartbeats 400000 in
theorem less_walk (a b : Int) (w : World) (t1 t2 t3 : Bool) (v : Int)
    (h1 : isN (U a) = t1) (h2 : isN (U b) = t2) (h3 : (FloatKind.f64.format.order (U a) (U b) == some .lt) = t3)
    (hv : v = if t1 = true then 2 else if t2 = true then 2 else if t3 = true then 1 else 0) :
    Calls Try.prog 86 #[.int .i64 a, .int .i64 b] w fun e w' => e = .returned (.int .i64 v) ∧ w' = w := by
  subst hv
  cases t1 <;> cases t2 <;> cases t3
  all_goals
    go_enter Try.func86, Try.ntmps86
    go_wp2_with (first | (go_at_call 98; refine (word_toFloat_any _ _).mono ?_; rintro e w' ⟨rfl, rfl⟩) | (go_at_call 99; refine (isNaN_any _ _).mono ?_; rintro e w' ⟨rfl, rfl⟩))
    go_ret
    exact ⟨rfl, rfl⟩

theorem less_eq (a b : Int) : less a b = if isN (U a) = true then 2 else if isN (U b) = true then 2 else if (FloatKind.f64.format.order (U a) (U b) == some .lt) = true then 1 else 0 := by
  unfold less
  rw [isN_iff, isN_iff]
  by_cases h1 : 9218868437227405312 < rung (U a)
  · simp [h1]
  · by_cases h2 : 9218868437227405312 < rung (U b)
    · simp [h1, h2]
    · rw [order_lt (by omega) (by omega)]
      simp [h1, h2]

theorem word_FLess_any (a b : Int) (w : World) :
    Calls Try.prog 86 #[.int .i64 a, .int .i64 b] w fun e w' => e = .returned (.int .i64 (less a b)) ∧ w' = w :=
  less_walk a b w _ _ _ _ rfl rfl rfl (less_eq a b)

set_option maxHeartbeats 400000 in
theorem rless_walk (a b : Int) (w : World) (t1 t2 t3 : Bool) (v : Int)
    (h1 : (FloatKind.f64.format.order (U a) (U a) != some .eq) = t1) (h2 : (FloatKind.f64.format.order (U b) (U b) != some .eq) = t2) (h3 : (FloatKind.f64.format.order (U a) (U b) == some .lt) = t3)
    (hv : v = if t1 = true then 2 else if t2 = true then 2 else if t3 = true then 1 else 0) :
    Calls Try.prog 26 #[.int .i64 a, .int .i64 b] w fun e w' => e = .returned (.int .i64 v) ∧ w' = w := by
  subst hv
  cases t1 <;> cases t2 <;> cases t3
  all_goals
    go_enter Try.func26, Try.ntmps26
    go_wp2_with (go_at_call 48; refine (donjonref1_float_any _ _).mono ?_; rintro e w' ⟨rfl, rfl⟩)
    go_ret
    exact ⟨rfl, rfl⟩

theorem donjonref1_FLess_any (a b : Int) (w : World) :
    Calls Try.prog 26 #[.int .i64 a, .int .i64 b] w fun e w' => e = .returned (.int .i64 (less a b)) ∧ w' = w :=
  rless_walk a b w _ _ _ _ rfl rfl rfl (less_eq a b)


end Go.Proofs.Ytinibccphecdfaa

/-! THE GREATER OF TWO FLOATS: plain facts: where neither is less, both are one word, or noughts; the answer is one of the two, and not less than either. -/
namespace Go.Proofs.Ytinibccphecdfaa
open Go.RowKit
set_option maxRecDepth 8000

theorem less_cases (a b : Int) : (9218868437227405312 < rung (U a) ∨ 9218868437227405312 < rung (U b)) ∧ less a b = 2 ∨
    rung (U a) ≤ 9218868437227405312 ∧ rung (U b) ≤ 9218868437227405312 ∧ (key (U a) < key (U b) ∧ less a b = 1 ∨ ¬ key (U a) < key (U b) ∧ less a b = 0) := by
  unfold less
  by_cases h1 : 9218868437227405312 < rung (U a)
  · simp [h1]
  · by_cases h2 : 9218868437227405312 < rung (U b)
    · simp [h1, h2]
    · by_cases h3 : key (U a) < key (U b)
      · simp [h1, h2, h3]; omega
      · simp [h1, h2, h3]; omega

theorem key_pos {a : Int} (h0 : 0 ≤ a) (h1 : a ≤ 9223372036854775807) : key (U a) = a := by
  have h := U_pos h0 h1
  unfold key sg
  rw [h.2.1]
  simp only [Bool.false_eq_true, if_false]
  exact h.2.2
theorem key_neg {a : Int} (h0 : a < 0) (h1 : -9223372036854775808 ≤ a) : key (U a) = -(a + 9223372036854775808) := by
  have h := U_neg h0 h1
  unfold key sg
  rw [h.2.1]
  simp only [if_true]
  omega

/-- Neither less: one word, or two noughts. -/
theorem key_eq_cases {a b : Int} (a0 : -9223372036854775808 ≤ a) (a1 : a ≤ 9223372036854775807) (b0 : -9223372036854775808 ≤ b) (b1 : b ≤ 9223372036854775807)
    (h : key (U a) = key (U b)) : a = b ∨ a = 0 ∧ b = -9223372036854775808 ∨ a = -9223372036854775808 ∧ b = 0 := by
  by_cases ha : a < 0 <;> by_cases hb : b < 0
  · rw [key_neg ha a0, key_neg hb b0] at h; omega
  · rw [key_neg ha a0, key_pos (by omega) b1] at h; omega
  · rw [key_pos (by omega) a1, key_neg hb b0] at h; omega
  · rw [key_pos (by omega) a1, key_pos (by omega) b1] at h; omega

theorem and_self {a : Int} (a0 : -9223372036854775808 ≤ a) (a1 : a ≤ 9223372036854775807) : bits .and .i64 a a = a := by
  have e0 : bits .and .i64 a a = IntKind.i64.wrap (((BitVec.ofInt 64 a).toNat &&& (BitVec.ofInt 64 a).toNat : Nat) : Int) :=
    congrArg (fun n : Nat => IntKind.i64.wrap (n : Int)) (BitVec.toNat_and (BitVec.ofInt 64 a) (BitVec.ofInt 64 a))
  rw [e0, wrap64_i, Nat.and_self, ofInt_U]
  exact S_U a0 a1
theorem and_noughts : bits .and .i64 0 (-9223372036854775808) = 0 := by decide +kernel
theorem and_noughts' : bits .and .i64 (-9223372036854775808) 0 = 0 := by decide +kernel

/-- The greater one: none, if either is; else one of the two; not less than either. -/
theorem fmax_cases {a b : Int} (a0 : -9223372036854775808 ≤ a) (a1 : a ≤ 9223372036854775807) (b0 : -9223372036854775808 ≤ b) (b1 : b ≤ 9223372036854775807) :
    (9218868437227405312 < rung (U a) ∨ 9218868437227405312 < rung (U b)) ∧ fmax a b = NAN ∨
    rung (U a) ≤ 9218868437227405312 ∧ rung (U b) ≤ 9218868437227405312 ∧
      (key (U b) < key (U a) ∧ fmax a b = a ∨ key (U a) < key (U b) ∧ fmax a b = b ∨ key (U a) = key (U b) ∧ fmax a b = (if a < 0 then b else a)) := by
  unfold fmax
  rcases less_cases a b with ⟨h, e⟩ | ⟨h1, h2, ⟨h3, e⟩ | ⟨h3, e⟩⟩
  · left; exact ⟨h, by rw [if_pos e]⟩
  · right; refine ⟨h1, h2, Or.inr (Or.inl ⟨h3, ?_⟩)⟩
    rw [if_neg (by omega), if_pos e]
  · right; refine ⟨h1, h2, ?_⟩
    rw [if_neg (by omega), if_neg (by omega)]
    rcases less_cases b a with ⟨h, e'⟩ | ⟨_, _, ⟨h4, e'⟩ | ⟨h4, e'⟩⟩
    · omega
    · left; exact ⟨h4, by rw [if_pos e']⟩
    · right; right
      refine ⟨by omega, ?_⟩
      rw [if_neg (by omega)]
      rcases key_eq_cases a0 a1 b0 b1 (by omega) with rfl | ⟨rfl, rfl⟩ | ⟨rfl, rfl⟩
      · rw [and_self a0 a1]; split <;> rfl
      · rw [and_noughts]; rfl
      · rw [and_noughts']; rfl

end Go.Proofs.Ytinibccphecdfaa

/-! SUMS, PRODUCTS AND QUOTIENTS OF WORDS AS FLOATS: plain facts, by sign and rung. -/
namespace Go.Proofs.Ytinibccphecdfaa
open Go.RowKit
set_option maxRecDepth 8000

theorem dec_cases (x y : Int) : x < y ∧ decide (x < y) = true ∨ ¬ x < y ∧ decide (x < y) = false := by
  by_cases h : x < y
  · exact Or.inl ⟨h, decide_eq_true h⟩
  · exact Or.inr ⟨h, decide_eq_false h⟩

/-- The word, with its sign, of a sign and a rung. -/
def Wd (s : Bool) (r : Nat) : Int := if s = true then (r : Int) - 9223372036854775808 else (r : Int)

theorem wd_parts (s : Bool) {r : Nat} (h : r < 9223372036854775808) : rung (wd s r) = r ∧ sgn (wd s r) = s ∧ wd s r < 18446744073709551616 := by
  unfold wd rung sgn
  cases s
  · simp only [Bool.false_eq_true, if_false]
    refine ⟨by omega, ?_, by omega⟩
    rw [Nat.div_eq_of_lt h]; rfl
  · simp only [if_true]
    refine ⟨by omega, ?_, by omega⟩
    have : (9223372036854775808 + r) / 9223372036854775808 = 1 := by omega
    rw [this]; rfl
theorem Wd_range (s : Bool) {r : Nat} (h : r < 9223372036854775808) : -9223372036854775808 ≤ Wd s r ∧ Wd s r ≤ 9223372036854775807 := by
  unfold Wd
  split <;> omega
theorem U_Wd (s : Bool) {r : Nat} (h : r < 9223372036854775808) : U (Wd s r) = wd s r := by
  unfold U Wd wd
  rw [IntKind.wrap_u64]
  split <;> omega
theorem S_wd (s : Bool) {r : Nat} (h : r < 9223372036854775808) : S (wd s r) = Wd s r := by
  rw [← U_Wd s h]
  exact S_U (Wd_range s h).1 (Wd_range s h).2
theorem toW_wd (s : Bool) {r : Nat} (h : r ≤ 9218868437227405312) : toW (wd s r) = Wd s r := by
  unfold toW
  rw [isN_iff, (wd_parts s (by omega)).1, if_neg (by simp; omega), S_wd s (by omega)]
theorem wd_of (n : Nat) (h : n < 18446744073709551616) : n = wd (sgn n) (rung n) := by
  have e := word_split n h
  unfold wd
  by_cases hs : sgn n = true
  · rw [if_pos hs] at e ⊢; exact e
  · rw [if_neg hs] at e ⊢; omega
theorem Wd_of {a : Int} (h0 : -9223372036854775808 ≤ a) (h1 : a ≤ 9223372036854775807) : a = Wd (sgn (U a)) (rung (U a)) := by
  have e : U a = wd (sgn (U a)) (rung (U a)) := wd_of (U a) (U_lt a)
  have f := S_U h0 h1
  rw [e, S_wd _ (rung_lt _)] at f
  exact f.symm
theorem Wd_neg (s : Bool) {r : Nat} (h : r < 9223372036854775808) : decide (Wd s r < 0) = s := by
  unfold Wd
  cases s
  · simp only [Bool.false_eq_true, if_false]; exact decide_eq_false (by omega)
  · simp only [if_true]; exact decide_eq_true (by omega)
theorem Wd_xor (s : Bool) {r : Nat} (h : r < 9223372036854775808) : bits .xor .i64 (Wd s r) (-9223372036854775808) = Wd (!s) r := by
  rw [xor_sign (Wd_range s h).1 (Wd_range s h).2]
  unfold Wd
  cases s
  · simp only [Bool.false_eq_true, if_false, Bool.not_false, if_true]; rw [if_neg (by omega)]
  · simp only [if_true, Bool.not_true, Bool.false_eq_true, if_false]; rw [if_pos (by omega)]; omega

/-- Whatever is rounded is a word with that sign, no NaN. -/
theorem nearest_wd (X : Nat) (P : Int) : ∃ r, r ≤ 9218868437227405312 ∧ ∀ s, FloatKind.f64.format.nearest s X P = wd s r := by
  by_cases h : X = 0
  · exact ⟨0, by omega, fun s => by rw [h, nearest_zero]⟩
  · exact ⟨min (nr X P) 9218868437227405312, Nat.min_le_right _ _, fun s => nearest_eq s X P h⟩

theorem bits_nan_left (o : BinOp) {x : Nat} (y : Nat) (h : 9218868437227405312 < rung x) : floatBits o .f64 x y = none := by
  unfold floatBits
  cases o <;> try rfl
  all_goals
    simp only [Ieee.Format.add, Ieee.Format.sub, Ieee.Format.mul, Ieee.Format.div, read_nan h]
    rfl
theorem bits_nan_right (o : BinOp) (x : Nat) {y : Nat} (h : 9218868437227405312 < rung y) : floatBits o .f64 x y = none := by
  unfold floatBits
  cases o <;> try rfl
  all_goals
    simp only [Ieee.Format.add, Ieee.Format.sub, Ieee.Format.mul, Ieee.Format.div, read_nan h]
    cases FloatKind.f64.format.read x <;> rfl

theorem fop_none {o : BinOp} {a b : Int} (h : floatBits o .f64 (U a) (U b) = none) : fop o a b = NAN := by
  unfold fop; rw [h]
theorem fop_some {o : BinOp} {a b : Int} {s : Bool} {r : Nat} (hr : r ≤ 9218868437227405312) (h : floatBits o .f64 (U a) (U b) = some (wd s r)) : fop o a b = Wd s r := by
  unfold fop; rw [h]; exact toW_wd s hr
theorem fop_nan_left (o : BinOp) {a : Int} (b : Int) (h : 9218868437227405312 < rung (U a)) : fop o a b = NAN := fop_none (bits_nan_left o _ h)
theorem fop_nan_right (o : BinOp) (a : Int) {b : Int} (h : 9218868437227405312 < rung (U b)) : fop o a b = NAN := fop_none (bits_nan_right o _ h)

/-! ### Products -/
theorem mul_fin {x y : Nat} (hx : rung x < 9218868437227405312) (hy : rung y < 9218868437227405312) :
    floatBits .mul .f64 x y = some (FloatKind.f64.format.nearest (sgn x ^^ sgn y) (mag (rung x) * mag (rung y)) (-1074 + (up (rung x) : Int) + (-1074 + (up (rung y) : Int)))) := by
  simp only [floatBits, Ieee.Format.mul, read_fin hx, read_fin hy]
  rfl
theorem mul_inf_inf {x y : Nat} (hx : rung x = 9218868437227405312) (hy : rung y = 9218868437227405312) :
    floatBits .mul .f64 x y = some (wd (sgn x ^^ sgn y) 9218868437227405312) := by
  simp only [floatBits, Ieee.Format.mul, read_inf hx, read_inf hy]
  rfl
theorem mag_zero {r : Nat} : mag r = 0 ↔ r = 0 := by
  unfold mag
  split <;> omega
theorem mul_inf_fin {x y : Nat} (hx : rung x = 9218868437227405312) (hy : rung y < 9218868437227405312) :
    floatBits .mul .f64 x y = if rung y = 0 then none else some (wd (sgn x ^^ sgn y) 9218868437227405312) := by
  simp only [floatBits, Ieee.Format.mul, read_inf hx, read_fin hy, Ieee.Datum.product, mag_zero]
  split <;> rfl
theorem mul_fin_inf {x y : Nat} (hx : rung x < 9218868437227405312) (hy : rung y = 9218868437227405312) :
    floatBits .mul .f64 x y = if rung x = 0 then none else some (wd (sgn x ^^ sgn y) 9218868437227405312) := by
  simp only [floatBits, Ieee.Format.mul, read_fin hx, read_inf hy, Ieee.Datum.product, mag_zero]
  rw [Bool.xor_comm]
  split <;> rfl

/-- A product's rung, by the rungs of both. -/
theorem mul_rung {r t : Nat} (hr : r ≤ 9218868437227405312) (ht : t ≤ 9218868437227405312) :
    ((r = 0 ∧ t = 9218868437227405312 ∨ r = 9218868437227405312 ∧ t = 0) ∧ ∀ x y, rung x = r → rung y = t → floatBits .mul .f64 x y = none) ∨
    ∃ q, q ≤ 9218868437227405312 ∧ ∀ x y, rung x = r → rung y = t → floatBits .mul .f64 x y = some (wd (sgn x ^^ sgn y) q) := by
  by_cases h1 : r = 9218868437227405312
  · by_cases h2 : t = 9218868437227405312
    · right; exact ⟨9218868437227405312, Nat.le_refl _, fun x y ex ey => mul_inf_inf (by omega) (by omega)⟩
    · by_cases h3 : t = 0
      · left; exact ⟨Or.inr ⟨h1, h3⟩, fun x y ex ey => by rw [mul_inf_fin (by omega) (by omega), if_pos (by omega)]⟩
      · right; exact ⟨9218868437227405312, Nat.le_refl _, fun x y ex ey => by rw [mul_inf_fin (by omega) (by omega), if_neg (by omega)]⟩
  · by_cases h2 : t = 9218868437227405312
    · by_cases h3 : r = 0
      · left; exact ⟨Or.inl ⟨h3, h2⟩, fun x y ex ey => by rw [mul_fin_inf (by omega) (by omega), if_pos (by omega)]⟩
      · right; exact ⟨9218868437227405312, Nat.le_refl _, fun x y ex ey => by rw [mul_fin_inf (by omega) (by omega), if_neg (by omega)]⟩
    · right
      obtain ⟨q, hq, e⟩ := nearest_wd (mag r * mag t) (-1074 + (up r : Int) + (-1074 + (up t : Int)))
      exact ⟨q, hq, fun x y ex ey => by rw [mul_fin (by omega) (by omega), ex, ey, e]⟩

theorem mul_comm_bits (x y : Nat) : floatBits .mul .f64 x y = floatBits .mul .f64 y x := by
  simp only [floatBits, Ieee.Format.mul]
  cases FloatKind.f64.format.read x <;> cases FloatKind.f64.format.read y <;> simp only [Ieee.Datum.product, Option.map, Bool.xor_comm, Nat.mul_comm, Int.add_comm]

/-! ### Sums -/
theorem add_comm_bits (x y : Nat) : floatBits .add .f64 x y = floatBits .add .f64 y x := by
  simp only [floatBits, Ieee.Format.add]
  cases hx : FloatKind.f64.format.read x <;> cases hy : FloatKind.f64.format.read y <;> simp only [Ieee.Datum.sum, Option.map]
  · rename_i s m i t n j
    rw [Int.min_comm i j, Bool.and_comm s t, Int.add_comm]
  · rename_i s t
    by_cases h : s = t
    · subst h; simp
    · rw [if_neg h, if_neg (fun e => h e.symm)]

/-- The sum of two finite floats: what is rounded, and its sign. -/
theorem sum_parts (s t : Bool) (m n i j : Nat) : ∃ total : Int, ∃ base : Nat,
    Ieee.Datum.sum (.number s m (-1074 + (i : Int))) (.number t n (-1074 + (j : Int))) = some (.number (if total = 0 then s && t else decide (total < 0)) total.natAbs (-1074 + (base : Int))) ∧
    total * ((2 ^ base : Nat) : Int) = sg s (m * 2 ^ i) + sg t (n * 2 ^ j) := by
  have e1 : (-1074 + (i : Int) - (-1074 + ((min i j : Nat) : Int))).toNat = i - min i j := by omega
  have e2 : (-1074 + (j : Int) - (-1074 + ((min i j : Nat) : Int))).toNat = j - min i j := by omega
  have e3 : min (-1074 + (i : Int)) (-1074 + (j : Int)) = -1074 + ((min i j : Nat) : Int) := by omega
  have f1 : m * 2 ^ i = m * 2 ^ (i - min i j) * 2 ^ min i j := by rw [Nat.mul_assoc, ← Nat.pow_add]; congr 2; omega
  have f2 : n * 2 ^ j = n * 2 ^ (j - min i j) * 2 ^ min i j := by rw [Nat.mul_assoc, ← Nat.pow_add]; congr 2; omega
  refine ⟨sg s (m * 2 ^ (i - min i j)) + sg t (n * 2 ^ (j - min i j)), min i j, ?_, ?_⟩
  · simp only [Ieee.Datum.sum, e1, e2, e3, signed_eq]
  · rw [Int.add_mul, sg_mul, sg_mul, ← f1, ← f2]

/-- A sum that is a float. -/
theorem add_exact {x y r : Nat} {s : Bool} (hx : rung x < 9218868437227405312) (hy : rung y < 9218868437227405312) (hr : r < 9218868437227405312)
    (h : sg (sgn x) (val (rung x)) + sg (sgn y) (val (rung y)) = sg s (val r)) (h0 : r = 0 → s = (sgn x && sgn y)) : floatBits .add .f64 x y = some (wd s r) := by
  simp only [floatBits, Ieee.Format.add, read_fin hx, read_fin hy]
  obtain ⟨total, base, e, ht⟩ := sum_parts (sgn x) (sgn y) (mag (rung x)) (mag (rung y)) (up (rung x)) (up (rung y))
  rw [← val_eq, ← val_eq, h] at ht
  rw [e]
  have p : 0 < 2 ^ base := Nat.two_pow_pos _
  have hn : total.natAbs * 2 ^ base = val r * 2 ^ 0 := by
    have : (total * ((2 ^ base : Nat) : Int)).natAbs = (sg s (val r)).natAbs := by rw [ht]
    rw [Int.natAbs_mul, Int.natAbs_natCast] at this
    rw [this, Nat.pow_zero, Nat.mul_one]
    unfold sg; split <;> omega
  have hs : (if total = 0 then sgn x && sgn y else decide (total < 0)) = s := by
    by_cases hz : total = 0
    · rw [if_pos hz]
      refine (h0 ?_).symm
      rw [hz, Int.zero_mul] at ht
      have : val r = 0 := by unfold sg at ht; split at ht <;> omega
      exact val_inj (by rw [this]; rfl)
    · rw [if_neg hz]
      have pz : (0 : Int) < ((2 ^ base : Nat) : Int) := by omega
      cases s
      · apply decide_eq_false
        intro hlt
        have : total * ((2 ^ base : Nat) : Int) < 0 := Int.mul_neg_of_neg_of_pos hlt pz
        rw [ht] at this
        simp only [sg, Bool.false_eq_true, if_false] at this
        omega
      · apply decide_eq_true
        rcases Int.lt_trichotomy total 0 with h1 | h1 | h1
        · exact h1
        · exact absurd h1 hz
        · exfalso
          have : 0 < total * ((2 ^ base : Nat) : Int) := Int.mul_pos h1 pz
          rw [ht] at this
          simp only [sg, if_true] at this
          omega
  rw [hs]
  show some (FloatKind.f64.format.nearest s total.natAbs (-1074 + (base : Int))) = some (wd s r)
  rw [near_exact s hr (i := base) (j := 0) (by omega) hn]

end Go.Proofs.Ytinibccphecdfaa

/-! THE CONTRACT OF ToInt: a float, cut off behind the point, where that is a word; else refused. -/
namespace Go.Proofs.Ytinibccphecdfaa
open Go.RowKit
set_option maxRecDepth 8000

/-- One, in units of the least float. -/
def E74 : Nat := 1074
theorem E74v : E74 = 1074 := rfl
def Q : Nat := 2 ^ E74
theorem Q_pos : 0 < Q := Nat.two_pow_pos E74
theorem Q_eq : Q = 2 ^ E74 := rfl

theorem cut_zero (s : Bool) (n d : Nat) : Ieee.Toward.zero.cut s n d = n / 2 ^ d := by
  simp only [Ieee.Toward.cut, Nat.shiftLeft_eq, Nat.one_mul]
  show n / 2 ^ min d (n.log2 + 2) + 0 = n / 2 ^ d
  rw [Nat.add_zero]
  by_cases h : d ≤ n.log2 + 2
  · rw [Nat.min_eq_left h]
  · rw [Nat.min_eq_right (by omega)]
    have hl : n < 2 ^ (n.log2 + 1) := Nat.lt_log2_self
    have h1 : 2 ^ (n.log2 + 1) ≤ 2 ^ (n.log2 + 2) := Nat.pow_le_pow_right (by omega) (by omega)
    have h2 : 2 ^ (n.log2 + 1) ≤ 2 ^ d := Nat.pow_le_pow_right (by omega) (by omega)
    rw [Nat.div_eq_of_lt (by omega), Nat.div_eq_of_lt (by omega)]

theorem div_Q (m u : Nat) : m * 2 ^ (u - 1074) / 2 ^ (1074 - u) = m * 2 ^ u / Q := by
  rw [Q_eq, ← E74v]
  generalize E74 = z
  by_cases h : z ≤ u
  · rw [show z - u = 0 from by omega, Nat.pow_zero, Nat.div_one]
    have e : 2 ^ u = 2 ^ (u - z) * 2 ^ z := by rw [← Nat.pow_add]; congr 1; omega
    rw [e, ← Nat.mul_assoc, Nat.mul_div_cancel _ (Nat.two_pow_pos _)]
  · rw [show u - z = 0 from by omega, Nat.pow_zero, Nat.mul_one]
    have e : 2 ^ z = 2 ^ (z - u) * 2 ^ u := by rw [← Nat.pow_add]; congr 1; omega
    rw [e, Nat.mul_div_mul_right _ _ (Nat.two_pow_pos _)]

/-- A float cut off behind its point. -/
def tr (n : Nat) : Int := sg (sgn n) (val (rung n) / Q)

theorem toInt_fin {n : Nat} (h : rung n < 9218868437227405312) : (FloatKind.f64.decode n).toInt .zero = some (tr n) := by
  unfold FloatKind.decode
  rw [read_fin h]
  have e : Ieee.Datum.toInt .zero (.number (sgn n) (mag (rung n)) (-1074 + (up (rung n) : Int))) =
      some (Ieee.signed (sgn n) (Ieee.Toward.zero.cut (sgn n) (mag (rung n) <<< (-1074 + (up (rung n) : Int)).toNat) (-(-1074 + (up (rung n) : Int))).toNat) 0) := rfl
  rw [e, signed_eq, cut_zero, Nat.shiftLeft_eq, show (-1074 + (up (rung n) : Int)).toNat = up (rung n) - 1074 from by omega,
    show (-(-1074 + (up (rung n) : Int))).toNat = 1074 - up (rung n) from by omega, div_Q, ← val_eq, Nat.pow_zero, Nat.mul_one]
  rfl

theorem val_K : val 4890909195324358656 = 9223372036854775808 * Q := by decide +kernel

theorem tr_bounds {n : Nat} (h : rung n ≤ 4890909195324358656) : val (rung n) / Q ≤ 9223372036854775808 ∧ (rung n < 4890909195324358656 → val (rung n) / Q < 9223372036854775808) := by
  constructor
  · apply Nat.div_le_of_le_mul
    rw [Nat.mul_comm, ← val_K]
    rcases Nat.lt_or_eq_of_le h with h1 | h1
    · exact Nat.le_of_lt (val_mono_lt h1)
    · rw [h1]; exact Nat.le_refl _
  · intro h1
    rw [Nat.div_lt_iff_lt_mul Q_pos, ← val_K]
    exact val_mono_lt h1

/-- Where ToInt answers. -/
def okI (a : Int) : Prop := -4890909195324358656 ≤ key (U a) ∧ key (U a) < 4890909195324358656

theorem okI_parts {a : Int} (h : okI a) : rung (U a) ≤ 4890909195324358656 ∧ (sgn (U a) = false → rung (U a) < 4890909195324358656) := by
  obtain ⟨h1, h2⟩ := h
  unfold key sg at h1 h2
  cases hs : sgn (U a) <;> rw [hs] at h1 h2 <;> simp only [Bool.false_eq_true, if_false, if_true] at h1 h2
  · exact ⟨by omega, fun _ => by omega⟩
  · exact ⟨by omega, fun h => by cases h⟩

theorem tr_range {a : Int} (h : okI a) : -9223372036854775808 ≤ tr (U a) ∧ tr (U a) ≤ 9223372036854775807 := by
  obtain ⟨h1, h2⟩ := okI_parts h
  obtain ⟨h3, h4⟩ := tr_bounds h1
  unfold tr sg
  generalize val (rung (U a)) / Q = q at *
  cases hs : sgn (U a)
  · have := h4 (h2 hs)
    simp only [Bool.false_eq_true, if_false]; omega
  · simp only [if_true]; omega

theorem floatToInt_ok {a : Int} (h : okI a) : floatToIntVal .f64 (U a) .i64 = some (tr (U a)) := by
  have h1 := (okI_parts h).1
  have h2 := tr_range h
  unfold floatToIntVal
  rw [toInt_fin (by omega)]
  have e : IntKind.min .i64 = -9223372036854775808 ∧ IntKind.max .i64 = 9223372036854775807 := by decide +kernel
  simp only
  rw [if_pos (by rw [e.1, e.2]; exact h2)]

theorem toInt_lt {a : Int} (h : ¬ 9218868437227405312 < rung (U a)) : (FloatKind.f64.format.order (U a) 14114281232179134464 == some .lt) = decide (key (U a) < -4890909195324358656) := by
  rw [order_lt (by omega) (by decide)]
  have : key 14114281232179134464 = -4890909195324358656 := by decide +kernel
  rw [this]
theorem toInt_ge {a : Int} (h : ¬ 9218868437227405312 < rung (U a)) :
    (FloatKind.f64.format.order (U a) 4890909195324358656 == some .gt || FloatKind.f64.format.order (U a) 4890909195324358656 == some .eq) = decide (4890909195324358656 ≤ key (U a)) := by
  have e : key 4890909195324358656 = 4890909195324358656 := by decide +kernel
  rw [order_gt (by omega) (by decide), order_eq (by omega) (by decide), e]
  by_cases h1 : 4890909195324358656 < key (U a)
  · rw [decide_eq_true h1, decide_eq_true (by omega : (4890909195324358656 : Int) ≤ key (U a)), Bool.true_or]
  · rw [decide_eq_false h1, Bool.false_or, decide_eq_decide]; omega

set_option maxHeartbeats 1000000 in
theorem toInt_walk_no (a : Int) (w : World) (t1 t2 : Bool)
    (h1 : isN (U a) = t1) (h2 : (FloatKind.f64.format.order (U a) 14114281232179134464 == some .lt) = t2)
    (h3 : t1 = false → t2 = false → (FloatKind.f64.format.order (U a) 4890909195324358656 == some .gt || FloatKind.f64.format.order (U a) 4890909195324358656 == some .eq) = true) :
    Calls Try.prog 88 #[.int .i64 a] w fun e w' => e = .returned (.tuple #[.int .i64 0, .int .i64 1]) ∧ w' = w := by
  cases t1
  · cases t2
    · have h4 := h3 rfl rfl
      clear h3
      go_enter Try.func88, Try.ntmps88
      go_wp2_with (first | (go_at_call 98; refine (word_toFloat_any _ _).mono ?_; rintro e w' ⟨rfl, rfl⟩) | (go_at_call 99; refine (isNaN_any _ _).mono ?_; rintro e w' ⟨rfl, rfl⟩))
      go_ret2
      exact ⟨rfl, rfl⟩
    · clear h3
      go_enter Try.func88, Try.ntmps88
      go_wp2_with (first | (go_at_call 98; refine (word_toFloat_any _ _).mono ?_; rintro e w' ⟨rfl, rfl⟩) | (go_at_call 99; refine (isNaN_any _ _).mono ?_; rintro e w' ⟨rfl, rfl⟩))
      go_ret2
      exact ⟨rfl, rfl⟩
  · clear h2 h3
    go_enter Try.func88, Try.ntmps88
    go_wp2_with (first | (go_at_call 98; refine (word_toFloat_any _ _).mono ?_; rintro e w' ⟨rfl, rfl⟩) | (go_at_call 99; refine (isNaN_any _ _).mono ?_; rintro e w' ⟨rfl, rfl⟩))
    go_ret2
    exact ⟨rfl, rfl⟩

set_option maxHeartbeats 1000000 in
theorem toInt_walk_yes (a v : Int) (w : World) (h1 : isN (U a) = false) (h2 : (FloatKind.f64.format.order (U a) 14114281232179134464 == some .lt) = false)
    (h3 : (FloatKind.f64.format.order (U a) 4890909195324358656 == some .gt || FloatKind.f64.format.order (U a) 4890909195324358656 == some .eq) = false)
    (h4 : ∀ w, (convert 109 2 (.float .f64 (U a))).run Try.prog w = .ok (.int .i64 v) w) :
    Calls Try.prog 88 #[.int .i64 a] w fun e w' => e = .returned (.tuple #[.int .i64 v, .int .i64 0]) ∧ w' = w := by
  go_enter Try.func88, Try.ntmps88
  go_wp2_with (first | (go_at_call 98; refine (word_toFloat_any _ _).mono ?_; rintro e w' ⟨rfl, rfl⟩) | (go_at_call 99; refine (isNaN_any _ _).mono ?_; rintro e w' ⟨rfl, rfl⟩))
  go_ret2
  exact ⟨rfl, rfl⟩

theorem word_ToInt_no {a : Int} (h : ¬ okI a) (w : World) :
    Calls Try.prog 88 #[.int .i64 a] w fun e w' => e = .returned (.tuple #[.int .i64 0, .int .i64 1]) ∧ w' = w := by
  refine toInt_walk_no a w _ _ rfl rfl ?_
  intro h1 h2
  rw [isN_iff] at h1
  have h1' : ¬ 9218868437227405312 < rung (U a) := of_decide_eq_false h1
  rw [toInt_lt h1'] at h2
  rw [toInt_ge h1']
  have h2' := of_decide_eq_false h2
  apply decide_eq_true
  unfold okI at h
  omega

theorem word_ToInt_yes {a : Int} (h : okI a) (w : World) :
    Calls Try.prog 88 #[.int .i64 a] w fun e w' => e = .returned (.tuple #[.int .i64 (tr (U a)), .int .i64 0]) ∧ w' = w := by
  have h0 := (okI_parts h).1
  have h1 : ¬ 9218868437227405312 < rung (U a) := by omega
  obtain ⟨h2, h3⟩ := h
  refine toInt_walk_yes a _ w ?_ ?_ ?_ ?_
  · rw [isN_iff]; exact decide_eq_false h1
  · rw [toInt_lt h1]; exact decide_eq_false (by omega)
  · rw [toInt_ge h1]; exact decide_eq_false (by omega)
  · intro w'
    exact run_convert_float_int w' 109 2 .f64 .i64 (U a) _ (by rw [Try.underlying109]; rfl) Try.underlying2 (floatToInt_ok ⟨h2, h3⟩)

/-- ToInt's answer, as a pair. -/
def okF (a : Int) : Bool := decide (-4890909195324358656 ≤ key (U a)) && decide (key (U a) < 4890909195324358656)
def toV (a : Int) : Int := if okF a = true then tr (U a) else 0
def toE (a : Int) : Int := if okF a = true then 0 else 1
theorem okF_iff (a : Int) : okF a = true ↔ okI a := by
  unfold okF okI
  rw [Bool.and_eq_true, decide_eq_true_iff, decide_eq_true_iff]
theorem word_ToInt_any (a : Int) (w : World) :
    Calls Try.prog 88 #[.int .i64 a] w fun e w' => e = .returned (.tuple #[.int .i64 (toV a), .int .i64 (toE a)]) ∧ w' = w := by
  unfold toV toE
  by_cases h : okF a = true
  · rw [if_pos h, if_pos h]; exact word_ToInt_yes ((okF_iff a).mp h) w
  · rw [if_neg h, if_neg h]; exact word_ToInt_no (fun k => h ((okF_iff a).mpr k)) w

end Go.Proofs.Ytinibccphecdfaa

/-! THE PROCESSOR, in plain words (chapter 16). No program. -/
namespace Go.Proofs.Ytinibccphecdfaa
open Go.RowKit
set_option maxRecDepth 8000
set_option linter.unusedSimpArgs false
set_option linter.unusedVariables false

/-- A segment; a caller's place; a processor. -/
structure Sg where
  is : Bool
  ws : List Int
  md : Int
  rg : Rg
structure Fr where
  s : Int
  f : Int
  r : Int
structure Cp where
  seg : Int
  off : Int
  ring : Int
  a : Int
  ps : List Ptr
  st : List Fr
  hl : Bool
def zeroG : Sg := ⟨false, [], 0, ⟨0, 0, 0, 0⟩⟩
def zeroC : Cp := ⟨0, 0, 0, 0, [⟨0, 0, 0⟩, ⟨0, 0, 0⟩, ⟨0, 0, 0⟩, ⟨0, 0, 0⟩], [], false⟩
def newC : Cp := ⟨0, 0, 4, 0, [⟨0, 0, 4⟩, ⟨1, 0, 4⟩, ⟨2, 0, 4⟩, ⟨3, 0, 4⟩], [], false⟩
/-- A segment that is known. -/
def kn (m : List Sg) (k : Int) : Sg := if k < 0 then zeroG else m.getD k.toNat zeroG
def pAt (c : Cp) (k : Int) : Ptr := c.ps.getD k.toNat ⟨0, 0, 0⟩
def hasM (md b : Int) : Bool := bits .and .i64 md b != 0
def wAt (g : Sg) (o : Int) : Int := g.ws.getD o.toNat 0
abbrev inG (g : Sg) (o : Int) : Prop := 0 ≤ o ∧ o < (g.ws.length : Int)
/-- What is fetched. -/
def fetE (c : Cp) (m : List Sg) : Int :=
  if (kn m c.seg).is = false then 35 else if hasM (kn m c.seg).md 4 = false ∨ mayX (kn m c.seg).rg c.ring = false then 33
  else if ¬ inG (kn m c.seg) c.off then 35 else if decE (wAt (kn m c.seg) c.off) ≠ 0 then 36 else 0
def fetI (c : Cp) (m : List Sg) : Ins := decI (wAt (kn m c.seg) c.off)
/-- Where mem is, and in which ring it is asked for. -/
def mOff (c : Cp) (i : Ins) : Int := (pAt c i.p).f + i.n
def mRing (c : Cp) (i : Ins) : Int := gmax c.ring (pAt c i.p).r
def mSeg (c : Cp) (m : List Sg) (i : Ins) : Sg := kn m (pAt c i.p).s
def rdE (c : Cp) (m : List Sg) (i : Ins) : Int :=
  if (mSeg c m i).is = false then 35 else if hasM (mSeg c m i).md 1 = false ∨ mayR (mSeg c m i).rg (mRing c i) = false then 31 else if ¬ inG (mSeg c m i) (mOff c i) then 35 else 0
def rdW (c : Cp) (m : List Sg) (i : Ins) : Int := wAt (mSeg c m i) (mOff c i)
def wrE (c : Cp) (m : List Sg) (i : Ins) : Int :=
  if (mSeg c m i).is = false then 35 else if hasM (mSeg c m i).md 2 = false ∨ mayW (mSeg c m i).rg (mRing c i) = false then 32 else if ¬ inG (mSeg c m i) (mOff c i) then 35 else 0
def raiseC (c : Cp) (r : Int) : Cp := { c with ps := c.ps.map fun p => ⟨p.s, p.f, gmax p.r r⟩ }
def clE (c : Cp) (m : List Sg) (i : Ins) : Int :=
  if (mSeg c m i).is = false then 35 else if hasM (mSeg c m i).md 4 = false then 33 else if callE (mSeg c m i).rg (mOff c i) (mRing c i) ≠ 0 then 34
  else if ¬ mOff c i < ((mSeg c m i).ws.length : Int) then 35 else if 8 ≤ c.st.length then 37 else 0
def clT (c : Cp) (m : List Sg) (i : Ins) : Cp :=
  raiseC { c with seg := (pAt c i.p).s, off := mOff c i, ring := callN (mSeg c m i).rg (mOff c i) (mRing c i), st := c.st ++ [⟨c.seg, c.off + 1, c.ring⟩] } c.ring
def lastF (c : Cp) : Fr := c.st.getD (c.st.length - 1) ⟨0, 0, 0⟩
def rtE (c : Cp) : Int := if c.st.length = 0 then 37 else if (lastF c).r < c.ring then 34 else 0
def rtT (c : Cp) : Cp := raiseC { c with seg := (lastF c).s, off := (lastF c).f, ring := (lastF c).r, st := c.st.take (c.st.length - 1) } (lastF c).r
/-- A and mem. -/
def arC (o a b : Int) : Int :=
  if o = 1 then b else if o = 4 then wrap64 (a + b) else if o = 5 then wrap64 (a - b) else if o = 6 then wrap64 (a * b)
  else if o = 7 then fop .add a b else if o = 8 then fop .sub a b else if o = 9 then fop .mul a b else if o = 10 then fop .quo a b else less a b
/-- What a step answers. -/
structure Ot where
  e : Int
  t : Cp
  wr : Option (Int × Int × Int)
  v : Int
  told : Bool
def flt (e : Int) : Ot := ⟨e, zeroC, none, 0, false⟩
def okC (t : Cp) : Ot := ⟨0, t, none, 0, false⟩
/-- A step that was fetched. -/
def opC (c : Cp) (m : List Sg) (i : Ins) : Ot :=
  let t : Cp := { c with off := c.off + 1 }
  if i.o = 0 then okC { t with hl := true }
  else if i.o = 1 ∨ 4 ≤ i.o ∧ i.o ≤ 11 then (if rdE c m i ≠ 0 then flt (rdE c m i) else okC { t with a := arC i.o c.a (rdW c m i) })
  else if i.o = 2 then (if wrE c m i ≠ 0 then flt (wrE c m i) else ⟨0, t, some ((pAt c i.p).s, mOff c i, c.a), 0, false⟩)
  else if i.o = 3 then okC { t with a := i.n }
  else if i.o = 12 then okC { t with a := toW (floatOfInt .f64 c.a) }
  else if i.o = 13 then (if toE c.a ≠ 0 then flt 36 else okC { t with a := toV c.a })
  else if i.o = 14 ∨ i.o = 15 ∧ c.a = 0 ∨ i.o = 16 ∧ c.a < 0 then okC { t with off := i.n }
  else if i.o = 17 then okC { t with ps := c.ps.set i.p.toNat ⟨(wPtr c.a).s, (wPtr c.a).f, gmax (wPtr c.a).r c.ring⟩ }
  else if i.o = 18 then (if rdE c m i ≠ 0 then flt (rdE c m i) else okC { t with ps := c.ps.set i.p.toNat (follow (wPtr (rdW c m i)) (mSeg c m i).rg (mRing c i)) })
  else if i.o = 19 then okC { t with a := ptrW (pAt c i.p) }
  else if i.o = 20 then (if clE c m i ≠ 0 then flt (clE c m i) else okC (clT c m i))
  else if i.o = 21 then (if rtE c ≠ 0 then flt (rtE c) else okC (rtT c))
  else if i.o = 22 then ⟨0, t, none, c.a, true⟩
  else okC t
def stepC (c : Cp) (m : List Sg) : Ot :=
  if c.hl = true then okC c else if fetE c m ≠ 0 then flt (fetE c m) else opC c m (fetI c m)
/-- The memory behind a step. -/
def putM (m : List Sg) : Option (Int × Int × Int) → List Sg
  | none => m
  | some (k, o, v) => m.set k.toNat { kn m k with ws := (kn m k).ws.set o.toNat v }
/-- A processor such as a step asks for. -/
structure Cp.Ok (c : Cp) : Prop where
  ps : c.ps.length = 4
  pp : ∀ p ∈ c.ps, -1000000000000 ≤ p.f ∧ p.f ≤ 1000000000000 ∧ 0 ≤ p.r ∧ p.r ≤ 7
  ring : 0 ≤ c.ring ∧ c.ring ≤ 7
  a : -9223372036854775808 ≤ c.a ∧ c.a ≤ 9223372036854775807
  st : c.st.length ≤ 8
  sr : ∀ f ∈ c.st, 0 ≤ f.r ∧ f.r ≤ 7
structure Sg.Ok (g : Sg) : Prop where
  rg : g.is = true → OkR g.rg
  ws : ∀ x ∈ g.ws, -9223372036854775808 ≤ x ∧ x ≤ 9223372036854775807
  len : g.ws.length ≤ 1000
end Go.Proofs.Ytinibccphecdfaa

/-! WHAT A STEP KEEPS, in plain words. No program. -/
namespace Go.Proofs.Ytinibccphecdfaa
open Go.RowKit
set_option maxRecDepth 8000
set_option linter.unusedSimpArgs false
set_option linter.unusedVariables false

def fitI (x : Int) : Prop := -9223372036854775808 ≤ x ∧ x ≤ 9223372036854775807
theorem fit_wrap (x : Int) : fitI (wrap64 x) := by unfold fitI wrap64; omega
theorem fit_toW (n : Nat) : fitI (toW n) := by
  unfold toW
  split
  · unfold fitI NAN; omega
  · exact fit_wrap _
theorem fit_fop (o : BinOp) (a b : Int) : fitI (fop o a b) := by
  unfold fop
  split
  · exact fit_toW _
  · unfold fitI NAN; omega
theorem fit_less (a b : Int) : fitI (less a b) := by
  rw [less_eq]
  unfold fitI
  repeat' split
  all_goals omega
theorem fit_toV (a : Int) : fitI (toV a) := by
  unfold toV
  split
  · rename_i h
    exact tr_range ((okF_iff a).mp h)
  · unfold fitI; omega
theorem fit_arC {a b : Int} (o : Int) (ha : fitI a) (hb : fitI b) : fitI (arC o a b) := by
  unfold arC
  repeat' split
  all_goals first | exact hb | exact fit_wrap _ | exact fit_fop _ _ _ | exact fit_less _ _
theorem dec_ok {x : Int} (hx : fitI x) (h : decE x = 0) : insE (decI x) = 0 := (enc_dec hx h).1
theorem wPtr_ok (x : Int) : 0 ≤ (wPtr x).s ∧ (wPtr x).s < 65536 ∧ 0 ≤ (wPtr x).f ∧ (wPtr x).f < 4294967296 ∧ 0 ≤ (wPtr x).r ∧ (wPtr x).r ≤ 7 := by
  unfold wPtr wMid wLow u64
  simp only
  omega
theorem gmax_le {a b c : Int} (ha : a ≤ c) (hb : b ≤ c) : gmax a b ≤ c := by unfold gmax; split <;> omega
theorem gmax_l (a b : Int) : a ≤ gmax a b := by unfold gmax; split <;> omega
theorem gmax_r (a b : Int) : b ≤ gmax a b := by unfold gmax; split <;> omega
theorem call_ok {x : Rg} {off r : Int} (hx : OkR x) (h : callE x off r = 0) : 0 ≤ callN x off r ∧ callN x off r ≤ 7 ∧ 0 ≤ off ∧ off < 16 := by
  obtain ⟨x0, x1, x2, x3, x4, x5⟩ := hx
  unfold callE at h
  unfold callN
  repeat' split at h
  all_goals first
    | (exfalso; omega)
    | (rename_i h1; repeat' split; all_goals omega)
    | (repeat' split; all_goals omega)
section
variable {c : Cp} {m : List Sg} {i : Ins}
theorem zeroG_ok : zeroG.Ok := ⟨fun h => (by cases h), fun x h => (by simp [zeroG] at h), by simp [zeroG]⟩
theorem kn_ok (hm : ∀ g ∈ m, g.Ok) (k : Int) : (kn m k).Ok := by
  unfold kn
  split
  · exact zeroG_ok
  · rw [List.getD_eq_getElem?_getD]
    cases h : m[k.toNat]? with
    | none => exact zeroG_ok
    | some g => exact hm g (List.mem_of_getElem? h)
theorem wAt_fit {g : Sg} (hg : g.Ok) (o : Int) : fitI (wAt g o) := by
  unfold wAt
  rw [List.getD_eq_getElem?_getD]
  cases h : g.ws[o.toNat]? with
  | none => unfold fitI; simp
  | some x => exact hg.ws x (List.mem_of_getElem? h)
theorem pAt_ok (hc : c.Ok) (k : Int) : -1000000000000 ≤ (pAt c k).f ∧ (pAt c k).f ≤ 1000000000000 ∧ 0 ≤ (pAt c k).r ∧ (pAt c k).r ≤ 7 := by
  unfold pAt
  rw [List.getD_eq_getElem?_getD]
  cases h : c.ps[k.toNat]? with
  | none => simp
  | some p => exact hc.pp p (List.mem_of_getElem? h)
theorem Cp.Ok.set (hc : c.Ok) {k : Nat} {q : Ptr} (hq : -1000000000000 ≤ q.f ∧ q.f ≤ 1000000000000 ∧ 0 ≤ q.r ∧ q.r ≤ 7) : ∀ p ∈ c.ps.set k q, -1000000000000 ≤ p.f ∧ p.f ≤ 1000000000000 ∧ 0 ≤ p.r ∧ p.r ≤ 7 := fun p hp => by
  rcases List.mem_or_eq_of_mem_set hp with h | h
  · exact hc.pp p h
  · rw [h]; exact hq
theorem Cp.Ok.raise (hc : c.Ok) {r : Int} (h0 : 0 ≤ r) (h1 : r ≤ 7) : (raiseC c r).Ok := by
  refine ⟨by simpa [raiseC] using hc.ps, fun p hp => ?_, hc.ring, hc.a, hc.st, hc.sr⟩
  simp only [raiseC, List.mem_map] at hp
  obtain ⟨q, hq, rfl⟩ := hp
  have := hc.pp q hq
  have g1 := gmax_l q.r r
  have g2 := gmax_le this.2.2.2 h1
  exact ⟨this.1, this.2.1, by show 0 ≤ gmax q.r r; omega, g2⟩
theorem mRing_ok (hc : c.Ok) : 0 ≤ mRing c i ∧ mRing c i ≤ 7 := by
  have := pAt_ok hc i.p
  have g1 := gmax_l c.ring (pAt c i.p).r
  have hr := hc.ring
  exact ⟨by unfold mRing; omega, gmax_le hr.2 this.2.2.2⟩
theorem lastF_ok (hc : c.Ok) : 0 ≤ (lastF c).r ∧ (lastF c).r ≤ 7 := by
  unfold lastF
  rw [List.getD_eq_getElem?_getD]
  cases h : c.st[c.st.length - 1]? with
  | none => simp
  | some p => exact hc.sr p (List.mem_of_getElem? h)
theorem cl_ok (hc : c.Ok) (hm : ∀ g ∈ m, g.Ok) (h : clE c m i = 0) : (clT c m i).Ok := by
  have hg : (mSeg c m i).Ok := kn_ok hm (pAt c i.p).s
  unfold clE at h
  have hr := hc.ring
  by_cases h1 : (mSeg c m i).is = false
  · rw [if_pos h1] at h; cases h
  rw [if_neg h1] at h
  by_cases h2 : hasM (mSeg c m i).md 4 = false
  · rw [if_pos h2] at h; cases h
  rw [if_neg h2] at h
  by_cases h3 : callE (mSeg c m i).rg (mOff c i) (mRing c i) ≠ 0
  · rw [if_pos h3] at h; cases h
  rw [if_neg h3] at h
  by_cases h4 : ¬ mOff c i < ((mSeg c m i).ws.length : Int)
  · rw [if_pos h4] at h; cases h
  rw [if_neg h4] at h
  by_cases h5 : 8 ≤ c.st.length
  · rw [if_pos h5] at h; cases h
  have hx := hg.rg (by simpa using h1)
  have hn := call_ok hx (by simpa using h3)
  unfold clT
  apply Cp.Ok.raise _ hr.1 hr.2
  refine ⟨hc.ps, hc.pp, ⟨hn.1, hn.2.1⟩, hc.a, ?_, fun f hf => ?_⟩
  · simp; omega
  · rcases List.mem_append.1 hf with hf | hf
    · exact hc.sr f hf
    · have := List.mem_singleton.1 hf
      subst this
      exact hr
theorem rt_ok (hc : c.Ok) : (rtT c).Ok := by
  have hl := lastF_ok hc
  unfold rtT
  apply Cp.Ok.raise _ hl.1 hl.2
  refine ⟨hc.ps, hc.pp, hl, hc.a, ?_, fun f hf => hc.sr f (List.mem_of_mem_take hf)⟩
  have := hc.st
  simp
  omega
theorem ptrW_fitI (p : Ptr) : fitI (ptrW p) := by
  unfold fitI ptrW
  omega
theorem op_ok (hc : c.Ok) (hm : ∀ g ∈ m, g.Ok) (hi : insE i = 0) (h : (opC c m i).e = 0) : (opC c m i).t.Ok := by
  obtain ⟨⟨a0, a1⟩, a2, a3, a4, a5⟩ := insE_zero.1 hi
  have hg : (mSeg c m i).Ok := kn_ok hm (pAt c i.p).s
  have hw : fitI (rdW c m i) := wAt_fit hg _
  have hp := pAt_ok hc i.p
  have hr := hc.ring
  have q1 := wPtr_ok c.a
  have q2 := wPtr_ok (rdW c m i)
  have q3 := mRing_ok (i := i) hc
  have hn : fitI i.n := by unfold fitI; omega
  unfold opC at h ⊢
  by_cases c0 : i.o = 0
  · rw [if_pos c0]; exact ⟨hc.ps, hc.pp, hc.ring, hc.a, hc.st, hc.sr⟩
  rw [if_neg c0] at h ⊢
  by_cases c1 : i.o = 1 ∨ 4 ≤ i.o ∧ i.o ≤ 11
  · rw [if_pos c1] at h ⊢
    by_cases e : rdE c m i ≠ 0
    · rw [if_pos e] at h; exact absurd h e
    · rw [if_neg e]; exact ⟨hc.ps, hc.pp, hc.ring, fit_arC _ hc.a hw, hc.st, hc.sr⟩
  rw [if_neg c1] at h ⊢
  by_cases c2 : i.o = 2
  · rw [if_pos c2] at h ⊢
    by_cases e : wrE c m i ≠ 0
    · rw [if_pos e] at h; exact absurd h e
    · rw [if_neg e]; exact ⟨hc.ps, hc.pp, hc.ring, hc.a, hc.st, hc.sr⟩
  rw [if_neg c2] at h ⊢
  by_cases c3 : i.o = 3
  · rw [if_pos c3]; exact ⟨hc.ps, hc.pp, hc.ring, hn, hc.st, hc.sr⟩
  rw [if_neg c3] at h ⊢
  by_cases c4 : i.o = 12
  · rw [if_pos c4]; exact ⟨hc.ps, hc.pp, hc.ring, fit_toW _, hc.st, hc.sr⟩
  rw [if_neg c4] at h ⊢
  by_cases c5 : i.o = 13
  · rw [if_pos c5] at h ⊢
    by_cases e : toE c.a ≠ 0
    · rw [if_pos e] at h; cases h
    · rw [if_neg e]; exact ⟨hc.ps, hc.pp, hc.ring, fit_toV _, hc.st, hc.sr⟩
  rw [if_neg c5] at h ⊢
  by_cases c6 : i.o = 14 ∨ i.o = 15 ∧ c.a = 0 ∨ i.o = 16 ∧ c.a < 0
  · rw [if_pos c6]; exact ⟨hc.ps, hc.pp, hc.ring, hc.a, hc.st, hc.sr⟩
  rw [if_neg c6] at h ⊢
  by_cases c7 : i.o = 17
  · rw [if_pos c7]
    have g1 := gmax_l (wPtr c.a).r c.ring
    have g2 := gmax_le q1.2.2.2.2.2 hr.2
    exact ⟨by show (c.ps.set _ _).length = 4; rw [List.length_set]; exact hc.ps, hc.set ⟨by show -1000000000000 ≤ (wPtr c.a).f; omega, by show (wPtr c.a).f ≤ 1000000000000; omega, by show 0 ≤ gmax _ _; omega, g2⟩, hc.ring, hc.a, hc.st, hc.sr⟩
  rw [if_neg c7] at h ⊢
  by_cases c8 : i.o = 18
  · rw [if_pos c8] at h ⊢
    by_cases e : rdE c m i ≠ 0
    · rw [if_pos e] at h; exact absurd h e
    · rw [if_neg e]
      have hx : (mSeg c m i).is = true := by
        unfold rdE at e
        by_cases h1 : (mSeg c m i).is = false
        · rw [if_pos h1] at e; exact absurd (by decide) e
        · simpa using h1
      obtain ⟨x0, x1, x2, x3, x4, x5⟩ := hg.rg hx
      have g1 := gmax_l (gmax (wPtr (rdW c m i)).r (mSeg c m i).rg.a) (mRing c i)
      have g2 := gmax_l (wPtr (rdW c m i)).r (mSeg c m i).rg.a
      have g3 := gmax_le (gmax_le q2.2.2.2.2.2 (show (mSeg c m i).rg.a ≤ 7 by omega)) q3.2
      exact ⟨by show (c.ps.set _ _).length = 4; rw [List.length_set]; exact hc.ps, hc.set ⟨by show -1000000000000 ≤ (wPtr _).f; omega, by show (wPtr _).f ≤ 1000000000000; omega, by show 0 ≤ gmax _ _; omega, g3⟩, hc.ring, hc.a, hc.st, hc.sr⟩
  rw [if_neg c8] at h ⊢
  by_cases c9 : i.o = 19
  · rw [if_pos c9]; exact ⟨hc.ps, hc.pp, hc.ring, ptrW_fitI _, hc.st, hc.sr⟩
  rw [if_neg c9] at h ⊢
  by_cases c10 : i.o = 20
  · rw [if_pos c10] at h ⊢
    by_cases e : clE c m i ≠ 0
    · rw [if_pos e] at h; exact absurd h e
    · rw [if_neg e]; exact cl_ok hc hm (by simpa using e)
  rw [if_neg c10] at h ⊢
  by_cases c11 : i.o = 21
  · rw [if_pos c11] at h ⊢
    by_cases e : rtE c ≠ 0
    · rw [if_pos e] at h; exact absurd h e
    · rw [if_neg e]; exact rt_ok hc
  rw [if_neg c11] at h ⊢
  by_cases c12 : i.o = 22
  · rw [if_pos c12]; exact ⟨hc.ps, hc.pp, hc.ring, hc.a, hc.st, hc.sr⟩
  · rw [if_neg c12]; exact ⟨hc.ps, hc.pp, hc.ring, hc.a, hc.st, hc.sr⟩
/-- What was fetched is an instruction. -/
theorem fet_ok (hm : ∀ g ∈ m, g.Ok) (h : fetE c m = 0) : insE (fetI c m) = 0 := by
  unfold fetE at h
  split at h
  · cases h
  · split at h
    · cases h
    · split at h
      · cases h
      · split at h
        · cases h
        · rename_i h4
          exact dec_ok (wAt_fit (kn_ok hm _) _) (by simpa using h4)
theorem step_ok (hc : c.Ok) (hm : ∀ g ∈ m, g.Ok) (h : (stepC c m).e = 0) : (stepC c m).t.Ok := by
  unfold stepC at h ⊢
  by_cases c0 : c.hl = true
  · rw [if_pos c0]; exact hc
  rw [if_neg c0] at h ⊢
  by_cases e : fetE c m ≠ 0
  · rw [if_pos e] at h; exact absurd h e
  · rw [if_neg e] at h ⊢
    exact op_ok hc hm (fet_ok hm (by simpa using e)) h
end
end Go.Proofs.Ytinibccphecdfaa

/-! WHAT A ROW OF ONE'S OWN MAY TOUCH WHEN IT GROWS: its own block, and new ones; where it lies then. -/
namespace Go.Proofs.Ytinibccphecdfaa
open Go.RowKit
set_option maxRecDepth 8000
set_option linter.unusedSimpArgs false
set_option linter.unusedVariables false

/-- The row lies where it lay, or in a new block. -/
def Moved (w : World) (v v' : Value) : Prop := v'.ownBlock = v.ownBlock ∨ ∀ k, v'.ownBlock = some k → w.heap.size ≤ k
structure Grew (w : World) (v : Value) (w' : World) (v' : Value) : Prop where
  by_ : w.grownBy w' v.ownBlock
  at_ : Moved w v v'
theorem Grew.refl (w : World) (v : Value) : Grew w v w v := ⟨⟨rfl, rfl, rfl, Nat.le_refl _, fun _ _ _ => rfl⟩, .inl rfl⟩
theorem Grew.trans {w w1 w2 : World} {v v1 v2 : Value} (h : Grew w v w1 v1) (k : Grew w1 v1 w2 v2) : Grew w v w2 v2 := by
  refine ⟨⟨k.by_.os.trans h.by_.os, k.by_.tape.trans h.by_.tape, k.by_.output.trans h.by_.output, Nat.le_trans h.by_.size k.by_.size, fun j hj hne => ?_⟩, ?_⟩
  · refine (k.by_.block j (Nat.lt_of_lt_of_le hj h.by_.size) ?_).trans (h.by_.block j hj hne)
    rcases h.at_ with e | e
    · rw [e]; exact hne
    · intro hq
      have := e j hq.symm
      omega
  · rcases k.at_ with e | e
    · rcases h.at_ with e' | e'
      · exact .inl (e.trans e')
      · exact .inr fun j hj => e' j (e ▸ hj)
    · exact .inr fun j hj => Nat.le_trans h.by_.size (e j hj)
theorem Grew.alloc (w : World) (v : Value) (o : Obj) : Grew w v (w.alloc o) v := ⟨World.grownBy_alloc w o _, .inl rfl⟩
theorem Grew.drew {w w' : World} {v v' : Value} (h : Grew w v w' v') : Grew w v w'.drew v' := ⟨⟨h.by_.os, h.by_.tape, h.by_.output, h.by_.size, h.by_.block⟩, h.at_⟩
theorem Grew.cell {w w' : World} {v v' : Value} (h : Grew w v w' v') {a : Addr} (ha : a.block < w.heap.size) (hne : some a.block ≠ v.ownBlock) : w'.cell? a = w.cell? a := World.cell?_of_block (h.by_.block _ ha hne)
theorem Grew.apart {w w' : World} {v v' : Value} (h : Grew w v w' v') {g : Nat} (hg : g < w.heap.size) (hne : some g ≠ v.ownBlock) : some g ≠ v'.ownBlock := by
  rcases h.at_ with e | e
  · rw [e]; exact hne
  · intro hq
    have := e g hq.symm
    omega
theorem Grew.below {w w' : World} {v v' : Value} (h : Grew w v w' v') {base : Nat} (hb : base ≤ w.heap.size) (hv : ∀ k, v.ownBlock = some k → base ≤ k) : Below base w w' := (Below.refl base w).grown h.by_ hb hv

section
variable {P : Program} (w : World)
/-- append onto a row of one's own, wherever it lies then. -/
theorem run_append_grew (base : Nat) (t ty e : TypeId) (i : TypeInfo) (z : Value) (size bytes : Nat) (ht : P.underlying t = some (.slice e)) (hi : P.info? e = some i) (hz : i.zero = some z)
    (hsize : i.size = size) (hby : i.bytes = bytes) (hzs : z.cells.size = size) (hsz : 0 < size)
    (v : Value) (n : Nat) (xs : List Value) (hown : w.ownsRow base e size v n xs)
    (a : Addr) (m c : Nat) (news : List Value) (hl : news.length = m * size) (hnews : ∀ j u, news[j]? = some u → w.cell? (a.add j) = some u) (h1 : ∀ u ∈ news, u.oneCell' = true)
    (h63 : n + m ≤ maxLen) (hbytes : (n + m) * bytes ≤ 140737488355328) (hbase : base ≤ w.heap.size) :
    ∃ v' w', (Builtin.append_ #[t, t] ty #[v, .slice (some a) m c]).run P w = .ok v' w' ∧ w'.ownsRow base e size v' (n + m) (xs ++ news) ∧ Grew w v w' v' := by
  obtain ⟨v', w', hr, ho, hg, hq⟩ := run_append_own w base t ty e i z size bytes ht hi hz hsize hby hzs hsz v n xs hown a m c news hl hnews h1 h63 hbytes hbase
  refine ⟨v', w', hr, ho, hg, ?_⟩
  have hown' := hown
  rcases hown.2 with ⟨rfl, rfl⟩ | ⟨g, cap, cur, rfl, hbg, hgg, hnc, hcm, hcs, htake⟩
  · have hx : xs = [] := List.eq_nil_of_length_eq_zero (by simpa using hown.1)
    subst hx
    obtain ⟨v2, w2, hr2, ho2, _⟩ := run_append_own w w.heap.size t ty e i z size bytes ht hi hz hsize hby hzs hsz (.slice none 0 0) 0 [] (World.ownsRow_nil _ _ _ _) a m c news hl hnews h1 h63 hbytes (Nat.le_refl _)
    rw [hr] at hr2
    injection hr2 with e1 e2
    subst e1
    exact .inr fun k hk => (ho2.lt k hk).1
  · subst hsize
    by_cases hroom : n + m ≤ cap
    · have hfit : n * i.size + news.length ≤ cur.size := by rw [hl, hcs, ← Nat.add_mul]; exact Nat.mul_le_mul_right _ hroom
      have hr2 := run_append_room (P := P) w t ty e i ht hi g n cap cur hgg a m c news hl hnews h1 hroom hfit
      rw [hr] at hr2
      injection hr2 with e1 e2
      subst e1
      exact .inl rfl
    · have holds : ∀ j u, xs[j]? = some u → w.cell? ((⟨g, 0, none⟩ : Addr).add j) = some u := hown'.cells (g := g) rfl
      subst hby
      have hr2 := run_append_grow (P := P) w t ty e i z ht hi hz ⟨g, 0, none⟩ n cap xs hown'.1 holds a m c news hl hnews (by omega) (by simp only [maxLen] at h63; omega) (growslice_fits (by omega) hbytes)
      rw [hr] at hr2
      injection hr2 with e1 e2
      subst e1
      refine .inr fun k hk => ?_
      simp [Value.ownBlock] at hk
      omega
theorem run_append_str_grew (base : Nat) (t u ty e : TypeId) (i : TypeInfo) (ht : P.underlying t = some (.slice e)) (hu : P.underlying u = some .string) (hi : P.info? e = some i) (hz : i.zero = some (.int .u8 0))
    (hsize : i.size = 1) (hby : i.bytes = 1)
    (v : Value) (n : Nat) (xs : List Value) (hown : w.ownsRow base e 1 v n xs) (s : ByteArray)
    (h63 : n + s.size ≤ maxLen) (hbytes : n + s.size ≤ 140737488355328) (hbase : base ≤ w.heap.size) :
    ∃ v' w', (Builtin.append_ #[t, u] ty #[v, .string s]).run P w = .ok v' w' ∧ w'.ownsRow base e 1 v' (n + s.size) (xs ++ Go.Lib.strCells s) ∧ Grew w v w' v' := by
  obtain ⟨v', w', hr, ho, hg, hq⟩ := Go.Lib.run_append_own_string w base t u ty e i ht hu hi hz hsize hby v n xs hown s h63 hbytes hbase
  refine ⟨v', w', hr, ho, hg, ?_⟩
  have hown' := hown
  rcases hown.2 with ⟨rfl, rfl⟩ | ⟨g, cap, cur, rfl, hbg, hgg, hnc, hcm, hcs, htake⟩
  · have hx : xs = [] := List.eq_nil_of_length_eq_zero (by simpa using hown.1)
    subst hx
    obtain ⟨v2, w2, hr2, ho2, _⟩ := Go.Lib.run_append_own_string w w.heap.size t u ty e i ht hu hi hz hsize hby (.slice none 0 0) 0 [] (World.ownsRow_nil _ _ _ _) s h63 hbytes (Nat.le_refl _)
    rw [hr] at hr2
    injection hr2 with e1 e2
    subst e1
    exact .inr fun k hk => (ho2.lt k hk).1
  · by_cases hroom : n + s.size ≤ cap
    · have hcs' : cur.size = cap := by simpa using hcs
      have hr2 := Go.Lib.run_append_room_string (P := P) w t u ty e i ht hu hi hsize g n cap cur hgg s hroom (by omega)
      rw [hr] at hr2
      injection hr2 with e1 e2
      subst e1
      exact .inl rfl
    · have holds : ∀ j u, xs[j]? = some u → w.cell? ((⟨g, 0, none⟩ : Addr).add j) = some u := hown'.cells (g := g) rfl
      have hr2 := Go.Lib.run_append_grow_string (P := P) w t u ty e i (.int .u8 0) ht hu hi hz ⟨g, 0, none⟩ n cap xs (by rw [hsize]; exact hown'.1) holds s (by omega) (by simp only [maxLen] at h63; omega) (by rw [hby]; exact growslice_fits (by omega) (by omega))
      rw [hr] at hr2
      injection hr2 with e1 e2
      subst e1
      refine .inr fun k hk => ?_
      simp [Value.ownBlock] at hk
      omega
end
end Go.Proofs.Ytinibccphecdfaa

/-! ROWS OF THE CALL'S OWN, OF WHATEVER ELEMENTS: what they hold, and append onto them. For every stage from the tenth on. -/
namespace Go.Proofs.Ytinibccphecdfaa
open Go.RowKit
set_option maxRecDepth 8000
set_option linter.unusedSimpArgs false
set_option linter.unusedVariables false

/-- An element's type e, its slices' type t, its cells. -/
structure ElemOk {α : Type} (e t : TypeId) (sz : Nat) (f : α → List Value) : Prop where
  und : Try.prog.underlying t = some (.slice e)
  info : ∃ i z b, Try.prog.info? e = some i ∧ i.zero = some z ∧ i.size = sz ∧ i.bytes = b ∧ z.cells.size = sz ∧ b ≤ 10000
  pos : 0 < sz
  len : ∀ x, (f x).length = sz
  one : ∀ x, ∀ u ∈ f x, u.oneCell' = true
theorem info_of {e : TypeId} {z : Value} {sz b : Nat} (h : (Try.prog.info? e).map (fun i => (i.zero, i.size, i.bytes)) = some (some z, sz, b)) : ∃ i, Try.prog.info? e = some i ∧ i.zero = some z ∧ i.size = sz ∧ i.bytes = b := by
  cases hi : Try.prog.info? e with
  | none => rw [hi] at h; cases h
  | some i =>
    rw [hi] at h
    have hq : (i.zero, i.size, i.bytes) = (some z, sz, b) := Option.some.inj h
    exact ⟨i, rfl, congrArg Prod.fst hq, congrArg (fun p => p.2.1) hq, congrArg (fun p => p.2.2) hq⟩
theorem flat_at {α β : Type} {f : α → List β} {n : Nat} (hf : ∀ a, (f a).length = n) : ∀ (l : List α) (j k : Nat) (a : α), l[j]? = some a → k < n → (l.flatMap f)[j * n + k]? = (f a)[k]?
  | [], _, _, _, h, _ => by simp at h
  | b :: r, 0, k, a, h, hk => by
    simp at h
    subst h
    rw [List.flatMap_cons, Nat.zero_mul, Nat.zero_add, List.getElem?_append_left (by rw [hf]; exact hk)]
  | b :: r, j + 1, k, a, h, hk => by
    simp at h
    rw [List.flatMap_cons, List.getElem?_append_right (by rw [hf, Nat.succ_mul]; omega), hf, show (j + 1) * n + k - n = j * n + k by rw [Nat.succ_mul]; omega]
    exact flat_at hf r j k a h hk
theorem flat_length {α β : Type} {f : α → List β} {n : Nat} (hf : ∀ a, (f a).length = n) : ∀ l : List α, (l.flatMap f).length = l.length * n
  | [] => by simp
  | a :: r => by rw [List.flatMap_cons, List.length_append, hf, flat_length hf r, List.length_cons, Nat.succ_mul, Nat.add_comm]
/-- Elements, one behind the other, wherever they lie. -/
def RowAt {α : Type} (sz : Nat) (f : α → List Value) (W : World) (a : Option Addr) (l : List α) : Prop := ∀ j x, l[j]? = some x → ∃ y, a = some y ∧ ∀ i, i < sz → W.cell? (y.add (j * sz + i)) = (f x)[i]?
section
variable {α : Type} {e t : TypeId} {sz : Nat} {f : α → List Value} {w w' W : World} {base b : Nat} {v v' : Value} {l : List α}
theorem RowAt.below {a : Option Addr} (hf : ∀ x, (f x).length = sz) (h : RowAt sz f w a l) (k : Below w.heap.size w w') : RowAt sz f w' a l := fun j x hx => by
  obtain ⟨y, hy, hc⟩ := h j x hx
  refine ⟨y, hy, fun i hi => ?_⟩
  have h1 := hc i hi
  obtain ⟨u, hu⟩ : ∃ u, (f x)[i]? = some u := ⟨_, List.getElem?_eq_getElem (by rw [hf]; exact hi)⟩
  rw [hu] at h1 ⊢
  exact (k.cell (World.block_lt_of_cell? _ _ h1)).trans h1
theorem RowAt.flat {a : Addr} (hf : ∀ x, (f x).length = sz) (hp : 0 < sz) (h : RowAt sz f w (some a) l) : ∀ j u, (l.flatMap f)[j]? = some u → w.cell? (a.add j) = some u := fun j u hu => by
  have hj := (List.getElem?_eq_some_iff.1 hu).1
  rw [flat_length hf] at hj
  have hq : j / sz < l.length := Nat.div_lt_of_lt_mul (by rw [Nat.mul_comm]; exact hj)
  have hm : j % sz < sz := Nat.mod_lt _ hp
  have hjm : j / sz * sz + j % sz = j := by rw [Nat.mul_comm]; exact Nat.div_add_mod j sz
  have hx : l[j / sz]? = some l[j / sz] := List.getElem?_eq_getElem hq
  have h1 := flat_at hf l (j / sz) (j % sz) _ hx hm
  rw [hjm, hu] at h1
  obtain ⟨y, hy, hc⟩ := h (j / sz) _ hx
  obtain rfl := Option.some.inj hy
  have h2 := hc (j % sz) hm
  rw [hjm] at h2
  rw [h2, ← h1]
def OwnR (e : TypeId) (sz : Nat) (f : α → List Value) (w : World) (base : Nat) (v : Value) (l : List α) : Prop := w.ownsRow base e sz v l.length (l.flatMap f)
theorem OwnR.nil (e : TypeId) (sz : Nat) (f : α → List Value) (w : World) (base : Nat) : OwnR e sz f w base (.slice none 0 0) [] := World.ownsRow_nil _ _ _ _
theorem OwnR.lt (h : OwnR e sz f w base v l) {k : Nat} (hk : v.ownBlock = some k) : base ≤ k ∧ k < w.heap.size := World.ownsRow.lt (show w.ownsRow base e sz v l.length (l.flatMap f) from h) k hk
theorem OwnR.keep (h : OwnR e sz f w base v l) (hb : ∀ k, v.ownBlock = some k → w'.heap[k]? = w.heap[k]?) : OwnR e sz f w' base v l := by
  refine ⟨h.1, ?_⟩
  rcases h.2 with h1 | ⟨g, cap, cur, hv, hg, hh, rest⟩
  · exact .inl h1
  · refine .inr ⟨g, cap, cur, hv, hg, ?_, rest⟩
    rw [hb g (by rw [hv]; rfl)]
    exact hh
theorem OwnR.below (h : OwnR e sz f w base v l) (k : Below w.heap.size w w') : OwnR e sz f w' base v l := h.keep fun j hj => k.block j (h.lt hj).2
theorem OwnR.lower (h : OwnR e sz f w base v l) (hb : b ≤ base) : OwnR e sz f w b v l := by
  refine ⟨h.1, ?_⟩
  rcases h.2 with h1 | ⟨g, cap, cur, hv, hg, rest⟩
  · exact .inl h1
  · exact .inr ⟨g, cap, cur, hv, Nat.le_trans hb hg, rest⟩
theorem OwnR.slice (hf : ∀ x, (f x).length = sz) (h : OwnR e sz f w base v l) : ∃ a cap, v = .slice a l.length cap ∧ l.length ≤ cap ∧ (a = none → cap = 0) ∧ RowAt sz f w a l := by
  have hrow : w.ownsRow base e sz v l.length (l.flatMap f) := h
  rcases h.2 with ⟨rfl, h2⟩ | ⟨g, cap, cur, rfl, _, _, hc, _⟩
  · refine ⟨none, 0, by rw [h2], by omega, fun _ => rfl, fun j u hu => ?_⟩
    have := (List.getElem?_eq_some_iff.1 hu).1
    omega
  · refine ⟨_, cap, rfl, hc, fun q => (by cases q), fun j u hu => ⟨_, rfl, fun k hk => ?_⟩⟩
    have hj := (List.getElem?_eq_some_iff.1 hu).1
    rw [add_at, hrow.cellAt (j * sz + k) (by
      have : (j + 1) * sz ≤ l.length * sz := Nat.mul_le_mul_right _ hj
      rw [Nat.succ_mul] at this
      omega), flat_at hf l j k u hu hk]
/-- append of elements that lie anywhere. -/
theorem OwnR.append (hE : ElemOk e t sz f) (h : OwnR e sz f w base v l) (hb : base ≤ w.heap.size) (y : Addr) (m c : Nat) (l2 : List α) (hm : l2.length = m) (h2 : RowAt sz f w (some y) l2) (hl : l.length < 900000) (hl2 : m < 900000) :
    ∃ v' w', (Builtin.append_ #[t, t] t #[v, .slice (some y) m c]).run Try.prog w = .ok v' w' ∧ OwnR e sz f w' base v' (l ++ l2) ∧ Grew w v w' v' := by
  obtain ⟨i, z, by_, hi, hz, hs, hby, hzs, hbb⟩ := hE.info
  obtain ⟨v', W', h1, h2', h3⟩ := run_append_grew (P := Try.prog) w base t t e i z sz by_ hE.und hi hz hs hby hzs hE.pos v l.length _ h y m c (l2.flatMap f) (by rw [flat_length hE.len, hm]) (h2.flat hE.len hE.pos) (fun u hu => by
    obtain ⟨x, _, hx⟩ := List.mem_flatMap.1 hu
    exact hE.one x u hx) (by simp only [maxLen]; omega) (by
      have : (l.length + m) * by_ ≤ 1800000 * 10000 := Nat.mul_le_mul (by omega) hbb
      omega) hb
  refine ⟨v', W', h1, ?_, h3⟩
  unfold OwnR
  rw [List.flatMap_append, List.length_append, hm]
  exact h2'
theorem row_made (hf : ∀ x, (f x).length = sz) (w : World) (x : α) (cs : Array Value) (hcs : cs = (f x).toArray) (T : TypeId) : RowAt sz f (w.alloc (.cells cs T)) (some ⟨w.heap.size, 0, none⟩) [x] := fun j u hu => by
  have hj : j = 0 := by
    have := (List.getElem?_eq_some_iff.1 hu).1
    simpa using this
  subst hj
  obtain rfl : x = u := by simpa using hu
  refine ⟨_, rfl, fun i hi => ?_⟩
  rw [add_at, World.cell?_alloc_at _ _ _ _ rfl, hcs]
  simp
/-- append of one element that was just made. -/
theorem OwnR.push (hE : ElemOk e t sz f) (h : OwnR e sz f w base v l) (hb : base ≤ w.heap.size) (x : α) (cs : Array Value) (hcs : cs = (f x).toArray) (T : TypeId) (hl : l.length < 900000) :
    ∃ v' w', (Builtin.append_ #[t, t] t #[v, .slice (some ⟨w.heap.size, 0, none⟩) 1 1]).run Try.prog (w.alloc (.cells cs T)) = .ok v' w' ∧ OwnR e sz f w' base v' (l ++ [x]) ∧ Grew w v w' v' := by
  obtain ⟨v', w', h1, h2, h3⟩ := (h.below (alloc_below w (.cells cs T))).append hE (by simp; omega) ⟨w.heap.size, 0, none⟩ 1 1 [x] rfl (row_made hE.len w x cs hcs T) hl (by omega)
  exact ⟨v', w', h1, h2, (Grew.alloc w v _).trans h3⟩
theorem OwnR.grew_below (h : OwnR e sz f w base v l) (hb : base ≤ w.heap.size) (k : Grew w v w' v') : Below base w w' := k.below hb fun j hj => (h.lt hj).1
end
section
variable {ops : Array Oper} {o : Oper} {a : Act} {w : World} {Q : Exit → Act → World → Prop}
theorem step_append {t : TypeId} {K : Act → World → Prop} {E : Prop} (hg : o.guard = none) (s x : Operand) (hop : o.op = Op.call { callee := Callee.builtin Builtin.append, args := #[s, x], argTypes := #[t, t] }) (hty : o.type = t) {u v r : Value} {w' : World} (hs : a.eval s = u) (hx : a.eval x = v)
    (hrun : (Builtin.append_ #[t, t] t #[u, v]).run Try.prog w = .ok r w') (hK : K (a.put o.dst r) w') :
    if Region.wanted o (yielded ops a.tmps) = true then Oper.wp Try.prog o a w K Q else E := by
  have hw : Region.wanted o (yielded ops a.tmps) = true := by simp [Region.wanted, hg]
  rw [if_pos hw]
  unfold Oper.wp
  simp [execOp, hop, hty, resolve, invoke, builtin, hs, hx, hrun, Result.andThen]
  exact hK
theorem wpList_append {t : TypeId} {rest : List Oper} (hg : o.guard = none) (x y : Operand) (ho : o.op = .call { callee := .builtin .append, args := #[x, y], argTypes := #[t, t] }) (hty : o.type = t) {u v r : Value} {w' : World} (hx : a.eval x = u) (hy : a.eval y = v)
    (hc : (Builtin.append_ #[t, t] t #[u, v]).run Try.prog w = .ok r w')
    (h : wpList Try.prog ops Q rest (a.put o.dst r) w') : wpList Try.prog ops Q (o :: rest) a w := by
  refine wpList_value hg ?_ h
  unfold execOp
  simp only [ho, hty, resolve, invoke, builtin, Sem.run_bind, Sem.run_pure, Result.andThen_ok]
  simp [hx, hy, hc, Result.andThen]
end
end Go.Proofs.Ytinibccphecdfaa

/-! A BLOCK OF THE CALL'S OWN, CELL BY CELL: what it holds, and that it may be stored to. -/
namespace Go.Proofs.Ytinibccphecdfaa
open Go.RowKit
set_option maxRecDepth 8000
set_option linter.unusedSimpArgs false
set_option linter.unusedVariables false

def Blk (W : World) (b : Nat) (vs : List Value) : Prop := ∀ k v, vs[k]? = some v → W.cell? ⟨b, k, none⟩ = some v ∧ W.frozen? ⟨b, k, none⟩ = false
theorem Blk.same {W W' : World} {b : Nat} {vs : List Value} (h : Blk W b vs) (hb : W'.heap[b]? = W.heap[b]?) : Blk W' b vs := fun k v hv =>
  ⟨(World.cell?_of_block (a := ⟨b, k, none⟩) hb).trans (h k v hv).1, (World.frozen?_of_block (a := ⟨b, k, none⟩) hb).trans (h k v hv).2⟩
theorem blk_alloc (w : World) (cs : Array Value) (T : TypeId) : Blk (w.alloc (.cells cs T)) w.heap.size cs.toList := fun k v hv =>
  ⟨by rw [World.cell?_alloc_at _ _ _ _ rfl]; simpa using hv, World.frozen?_alloc_new w cs T k⟩
theorem Blk.lt {W : World} {b : Nat} {vs : List Value} (h : Blk W b vs) {v : Value} (h0 : vs[0]? = some v) : b < W.heap.size := World.block_lt_of_cell? _ ⟨b, 0, none⟩ (h 0 v h0).1
theorem Blk.set {W : World} {b : Nat} {vs : List Value} (h : Blk W b vs) (k : Nat) (v : Value) (hk : k < vs.length) : Blk (W.setCell ⟨b, k, none⟩ v) b (vs.set k v) := fun j u hu => by
  by_cases hj : k = j
  · subst hj
    rw [List.getElem?_set_self hk] at hu
    obtain rfl := Option.some.inj hu
    obtain ⟨h1, h2⟩ := h k vs[k] (List.getElem?_eq_getElem hk)
    exact ⟨by simp [World.cell?_setCell_same', h1], by simp [World.frozen?_setCell, h2]⟩
  · rw [List.getElem?_set_ne hj] at hu
    obtain ⟨h1, h2⟩ := h j u hu
    exact ⟨by rw [World.cell?_setCell_other]; exact h1; simp [hj], by simp [World.frozen?_setCell, h2]⟩
end Go.Proofs.Ytinibccphecdfaa

/-! WHOLE STRUCTS AT ONCE: loaded, stored, handed back, whatever their number of cells. For every stage from the tenth on. -/
namespace Go.Proofs.Ytinibccphecdfaa
open Go.RowKit
set_option maxRecDepth 8000
set_option linter.unusedSimpArgs false
set_option linter.unusedVariables false

theorem Blk.range {W : World} {b : Nat} {vs : List Value} (h : Blk W b vs) : W.rangeAt b 0 vs := fun j v hv => by
  rw [Nat.zero_add]
  exact (h j v hv).1
theorem Blk.there {W : World} {b : Nat} {vs : List Value} (h : Blk W b vs) : W.there b 0 vs.length := fun j hj => by
  rw [Nat.zero_add]
  have := h j vs[j] (List.getElem?_eq_getElem hj)
  exact ⟨by rw [this.1]; rfl, this.2⟩
theorem blk_of {W : World} {b : Nat} {vs : List Value} (h1 : W.rangeAt b 0 vs) (h2 : W.there b 0 vs.length) : Blk W b vs := fun k v hv => by
  have hk := (List.getElem?_eq_some_iff.1 hv).1
  have e1 := h1 k v hv
  have e2 := (h2 k hk).2
  rw [Nat.zero_add] at e1 e2
  exact ⟨e1, e2⟩
theorem Blk.setAll {W : World} {b : Nat} {vs cs : List Value} (h : Blk W b vs) (hl : vs.length = cs.length) : Blk (W.setCells b 0 cs) b cs := by
  have ht : W.there b 0 cs.length := by rw [← hl]; exact h.there
  exact blk_of (World.rangeAt_setCells_same W b 0 cs ht) (World.there_setCells ht b 0 cs)
theorem Below.cells {B : Nat} {a : World} {b : Nat} (hp : B ≤ b) : ∀ (vs : List Value) (o : Nat) {w : World} (_ : Below B a w), Below B a (w.setCells b o vs)
  | [], _, _, h => h
  | v :: r, o, _, h => Below.cells hp r (o + 1) (h.setCell (p := ⟨b, o, none⟩) hp v)
theorem heap_setCells_other {b k : Nat} (hk : k ≠ b) : ∀ (vs : List Value) (o : Nat) (w : World), (w.setCells b o vs).heap[k]? = w.heap[k]?
  | [], _, _ => rfl
  | v :: r, o, w => (heap_setCells_other hk r (o + 1) _).trans (heap_setCell_other _ ⟨b, o, none⟩ k _ hk)
theorem OwnR.setAll {α : Type} {e : TypeId} {sz : Nat} {f : α → List Value} {w : World} {base g : Nat} {v : Value} {l : List α} (h : OwnR e sz f w base v l) (hg : v.ownBlock ≠ some g) (vs : List Value) : OwnR e sz f (w.setCells g 0 vs) base v l :=
  h.keep fun k hk => heap_setCells_other (fun q => hg (by rw [hk, q])) vs 0 w
section
variable {ops : Array Oper} {rest : List Oper} {o : Oper} {a : Act} {w W : World} {Q : Exit → Act → World → Prop} {T : TypeId} {d : TypeDesc}
theorem wpList_load_row (hg : o.guard = none) (x : Operand) (ho : o.op = .load T x) (b : Nat) (hx : a.eval x = .pointer (some ⟨b, 0, none⟩)) (cs : List Value) (hc : w.rangeAt b 0 cs)
    (hu : Try.prog.underlying T = some d) (hd : d.isRow = true) (hi : (Try.prog.info? T).map (·.size) = some cs.length)
    (h : wpList Try.prog ops Q rest (a.put o.dst (.agg cs.toArray)) w) : wpList Try.prog ops Q (o :: rest) a w := wpList_load_mid hg T x ho b 0 hx cs d hc hu hd hi h
theorem wpList_store_row (hg : o.guard = none) (x y : Operand) (ho : o.op = .store T x y) (b : Nat) (hx : a.eval x = .pointer (some ⟨b, 0, none⟩)) (cs : List Value) (hy : a.eval y = .agg cs.toArray)
    (ht : w.there b 0 cs.length) (hi : (Try.prog.info? T).map (·.size) = some cs.length) (h1 : ∀ v ∈ cs, v.oneCell' = true) (hW : w.setCells b 0 cs = W)
    (h : wpList Try.prog ops Q rest (a.put o.dst undef) W) : wpList Try.prog ops Q (o :: rest) a w :=
  wpList_store_mid hg T x y ho b 0 cs.toArray hx hy ht hi (all_oneCell_toArray h1) (hW ▸ h)
end
section
variable {ops : Array Oper} {rest : List Oper} {o : Oper} {a : Act} {w : World} {Q : Exit → Act → World → Prop} {T : TypeId} {d : TypeDesc} {S : World → Prop}
/-- In a region that draws its order. -/
theorem yields_row (hw : Region.wanted o (yielded ops a.tmps) = true) (x : Operand) (ho : o.op = .load T x) (b : Nat) (hx : a.eval x = .pointer (some ⟨b, 0, none⟩)) (cs : List Value) (hS : ∀ w, S w → w.rangeAt b 0 cs)
    (hu : Try.prog.underlying T = some d) (hd : d.isRow = true) (hi : (Try.prog.info? T).map (·.size) = some cs.length) : YieldsIf Try.prog ops S o (.agg cs.toArray) a := yieldsIf_load_mid hw T x ho b 0 hx cs d hS hu hd hi
theorem yields_conv {t u : TypeId} {v r : Value} (hw : Region.wanted o (yielded ops a.tmps) = true) (x : Operand) (ho : o.op = .convert t u x) (hx : a.eval x = v) (hS : ∀ w, S w → (convert t u v).run Try.prog w = .ok r w) : YieldsIf Try.prog ops S o r a :=
  .inl ⟨hw, fun w hw' => by
    unfold execOp
    simp only [ho, hx, Sem.run_bind, hS w hw', Result.andThen_ok]
    rfl⟩
/-- A load under a guard that lets it be. -/
theorem wpList_load_rowg (hw : Region.wanted o (yielded ops a.tmps) = true) (x : Operand) (ho : o.op = .load T x) (b : Nat) (hx : a.eval x = .pointer (some ⟨b, 0, none⟩)) (cs : List Value) (hc : w.rangeAt b 0 cs)
    (hu : Try.prog.underlying T = some d) (hd : d.isRow = true) (hi : (Try.prog.info? T).map (·.size) = some cs.length)
    (h : wpList Try.prog ops Q rest (a.put o.dst (.agg cs.toArray)) w) : wpList Try.prog ops Q (o :: rest) a w := wpList_step fun K hK => by
  rw [if_pos hw]
  exact wp_load_mid T x ho b 0 hx cs d hc hu hd hi (hK _ _ h)
end
/-- What a function hands back whose results are a struct of the call's own, and a value beside it. -/
theorem results_row2 {fn : Func} {p q : Tmp} {T : TypeId} {d : TypeDesc} (h : fn.results = #[.cell p T, .tmp q]) (tmps : Array Value) (w : World) (g : Nat) (hp : tmps.getD p undef = .pointer (some ⟨g, 0, none⟩)) (v : Value) (hv : tmps.getD q undef = v) (cs : List Value) (hr : w.rangeAt g 0 cs)
    (hu : Try.prog.underlying T = some d) (hd : d.isRow = true) (hi : (Try.prog.info? T).map (·.size) = some cs.length) :
    (results fn tmps).run Try.prog w = .ok (.tuple #[.agg cs.toArray, v]) w := by
  have hp' : tmps[p]?.getD undef = .pointer (some ⟨g, 0, none⟩) := by simpa using hp
  have hv' : tmps[q]?.getD undef = v := by simpa using hv
  have e := run_loadVar_mid (P := Try.prog) w g 0 T cs d hr hu hd hi
  simp [results, h, hp', hv', asAddr, e]
theorem results_row1 {fn : Func} {p : Tmp} {T : TypeId} {d : TypeDesc} (h : fn.results = #[.cell p T]) (tmps : Array Value) (w : World) (g : Nat) (hp : tmps.getD p undef = .pointer (some ⟨g, 0, none⟩)) (cs : List Value) (hr : w.rangeAt g 0 cs)
    (hu : Try.prog.underlying T = some d) (hd : d.isRow = true) (hi : (Try.prog.info? T).map (·.size) = some cs.length) :
    (results fn tmps).run Try.prog w = .ok (.agg cs.toArray) w := by
  have hp' : tmps[p]?.getD undef = .pointer (some ⟨g, 0, none⟩) := by simpa using hp
  have e := run_loadVar_mid (P := Try.prog) w g 0 T cs d hr hu hd hi
  simp [results, h, hp', asAddr, e]
  try rfl
end Go.Proofs.Ytinibccphecdfaa

/-! WHOLE STRUCTS LOADED AT ANY ADDRESS (an element of a row). For every stage from the eleventh on. -/
namespace Go.Proofs.Ytinibccphecdfaa
open Go.RowKit
set_option maxRecDepth 8000
set_option linter.unusedSimpArgs false
set_option linter.unusedVariables false

def CellsAt (w : World) (x : Addr) (cs : List Value) : Prop := ∀ j v, cs[j]? = some v → w.cell? (x.add j) = some v
theorem run_loadVar_at {P : Program} (w : World) (x : Addr) (ty : TypeId) (cs : List Value) (d : TypeDesc) (hc : CellsAt w x cs)
    (hu : P.underlying ty = some d) (hd : d.isRow = true) (hi : (P.info? ty).map (·.size) = some cs.length) :
    (loadVar ty x).run P w = .ok (.agg cs.toArray) w := by
  have hl : (loadCells x cs.length).run P w = .ok cs.toArray w := run_loadCells_list (P := P) w x cs hc
  cases hq : P.info? ty with
  | none => simp [hq] at hi
  | some i =>
    have hs : i.size = cs.length := by simpa [hq] using hi
    have hagg : (isAgg ty).run P w = .ok true w := by
      unfold isAgg
      rw [Sem.run_bind, run_underlying hu w]
      cases d <;> simp_all
    simp [loadVar, Sem.run_bind, hagg, sizeOf, typeInfo, hq, hs, hl]
section
variable {ops : Array Oper} {rest : List Oper} {o : Oper} {a : Act} {w : World} {Q : Exit → Act → World → Prop} {T : TypeId} {d : TypeDesc} {S : World → Prop}
theorem wp_load_at {K : Act → World → Prop} (x : Operand) (ho : o.op = .load T x) (y : Addr) (hx : a.eval x = .pointer (some y)) (cs : List Value) (hc : CellsAt w y cs)
    (hu : Try.prog.underlying T = some d) (hd : d.isRow = true) (hi : (Try.prog.info? T).map (·.size) = some cs.length) (h : K (a.put o.dst (.agg cs.toArray)) w) : o.wp Try.prog a w K Q := by
  unfold Oper.wp execOp
  simp only [ho, hx, Instr.loadAt, Instr.sureAddr, Sem.run_bind, Sem.run_pure, Result.andThen_ok, run_loadVar_at w y T cs d hc hu hd hi]
  exact h
theorem wpList_load_at (hg : o.guard = none) (x : Operand) (ho : o.op = .load T x) (y : Addr) (hx : a.eval x = .pointer (some y)) (cs : List Value) (hc : CellsAt w y cs)
    (hu : Try.prog.underlying T = some d) (hd : d.isRow = true) (hi : (Try.prog.info? T).map (·.size) = some cs.length)
    (h : wpList Try.prog ops Q rest (a.put o.dst (.agg cs.toArray)) w) : wpList Try.prog ops Q (o :: rest) a w :=
  wpList_plain hg fun _ hK => wp_load_at x ho y hx cs hc hu hd hi (hK _ _ h)
theorem wpList_load_atg (hw : Region.wanted o (yielded ops a.tmps) = true) (x : Operand) (ho : o.op = .load T x) (y : Addr) (hx : a.eval x = .pointer (some y)) (cs : List Value) (hc : CellsAt w y cs)
    (hu : Try.prog.underlying T = some d) (hd : d.isRow = true) (hi : (Try.prog.info? T).map (·.size) = some cs.length)
    (h : wpList Try.prog ops Q rest (a.put o.dst (.agg cs.toArray)) w) : wpList Try.prog ops Q (o :: rest) a w := wpList_step fun K hK => by
  rw [if_pos hw]
  exact wp_load_at x ho y hx cs hc hu hd hi (hK _ _ h)
theorem yields_at (hw : Region.wanted o (yielded ops a.tmps) = true) (x : Operand) (ho : o.op = .load T x) (y : Addr) (hx : a.eval x = .pointer (some y)) (cs : List Value) (hS : ∀ w, S w → CellsAt w y cs)
    (hu : Try.prog.underlying T = some d) (hd : d.isRow = true) (hi : (Try.prog.info? T).map (·.size) = some cs.length) : YieldsIf Try.prog ops S o (.agg cs.toArray) a :=
  .inl ⟨hw, fun w hw' => by
    unfold execOp
    simp only [ho, hx, Instr.loadAt, Instr.sureAddr, Sem.run_bind, Sem.run_pure, Result.andThen_ok, run_loadVar_at w y T cs d (hS w hw') hu hd hi]⟩
end
theorem CellsAt.below {w w' : World} {x : Addr} {cs : List Value} (h : CellsAt w x cs) (b : Below w.heap.size w w') : CellsAt w' x cs := fun j v hv => (b.cell (World.block_lt_of_cell? _ _ (h j v hv))).trans (h j v hv)
/-- An element of a row. -/
theorem RowAt.at {α : Type} {sz : Nat} {f : α → List Value} {W : World} {y : Addr} {l : List α} (hf : ∀ x, (f x).length = sz) (h : RowAt sz f W (some y) l) {j : Nat} {x : α} (hx : l[j]? = some x) : CellsAt W (y.add (j * sz)) (f x) := fun i v hv => by
  obtain ⟨y', hy', hc⟩ := h j x hx
  obtain rfl := Option.some.inj hy'
  have hi := (List.getElem?_eq_some_iff.1 hv).1
  rw [hf] at hi
  rw [Addr.add_add, hc i hi, hv]
end Go.Proofs.Ytinibccphecdfaa

/-! WHAT A LAW HOLDS WHILE CALLS MAKE MEMORY OF THEIR OWN: a list of facts, each kept by whatever turns nothing that is there. For every stage from the tenth on. -/
namespace Go.Proofs.Ytinibccphecdfaa
open Go.RowKit
set_option maxRecDepth 8000
set_option linter.unusedSimpArgs false
set_option linter.unusedVariables false

def Stab (k : World → Prop) : Prop := ∀ W W', k W → Below W.heap.size W W' → k W'
structure Held (w W : World) (ks : List (World → Prop)) : Prop where
  k : ∀ k ∈ ks, k W ∧ Stab k
  bl : Below w.heap.size w W
section
variable {w W W' : World} {ks : List (World → Prop)} {k : World → Prop}
theorem Held.then (h : Held w W ks) (b : Below W.heap.size W W') : Held w W' ks := ⟨fun k hk => ⟨(h.k k hk).2 _ _ (h.k k hk).1 b, (h.k k hk).2⟩, Below.then h.bl b⟩
theorem Held.drew (h : Held w W ks) : Held w W.drew ks := h.then (Below.refl _ _).drew
theorem held_nil (w : World) : Held w w [] := ⟨fun _ h => by simp at h, Below.refl _ _⟩
theorem Held.add (h : Held w W ks) (hk : k W) (hs : Stab k) : Held w W (k :: ks) := ⟨fun j hj => by
  rcases List.mem_cons.1 hj with rfl | hj
  · exact ⟨hk, hs⟩
  · exact h.k j hj, h.bl⟩
theorem Held.get (h : Held w W ks) {i : Nat} (hi : ks[i]? = some k) : k W := (h.k k (List.mem_of_getElem? hi)).1
end
/-- A struct in a block of the law's own. -/
def BlkL (g : Nat) (cs : List Value) (W : World) : Prop := Blk W g cs ∧ g < W.heap.size
theorem stab_blk (g : Nat) (cs : List Value) : Stab (BlkL g cs) := fun W W' h b => ⟨h.1.same (b.block _ h.2), Nat.lt_of_lt_of_le h.2 b.size⟩
theorem BlkL.range {g : Nat} {cs : List Value} {W : World} (h : BlkL g cs W) : W.rangeAt g 0 cs := h.1.range
theorem blkl_alloc (w : World) (cs : Array Value) (T : TypeId) : BlkL w.heap.size cs.toList (w.alloc (.cells cs T)) := ⟨blk_alloc w cs T, by simp⟩
/-- A struct put into a block that was just made. -/
theorem put_new (W : World) (zs : Array Value) (T : TypeId) (cs : List Value) (hl : cs.length = zs.size) (hp : 0 < cs.length) : ∃ W', (W.alloc (.cells zs T)).setCells W.heap.size 0 cs = W' ∧ (W.alloc (.cells zs T)).there W.heap.size 0 cs.length ∧ BlkL W.heap.size cs W' ∧ Below W.heap.size W W' := by
  have hb := blk_alloc W zs T
  have hl' : zs.toList.length = cs.length := by simp [hl]
  have hs := hb.setAll hl'
  refine ⟨_, rfl, ?_, ⟨hs, ?_⟩, Below.cells (Nat.le_refl _) cs 0 (alloc_below _ _)⟩
  · rw [← hl']
    exact hb.there
  · obtain ⟨v, hv⟩ : ∃ v, cs[0]? = some v := ⟨_, List.getElem?_eq_getElem hp⟩
    exact hs.lt hv
end Go.Proofs.Ytinibccphecdfaa

/-! PARTS OF A STRUCT'S BLOCK, stored whole: what the block holds then. For every stage from the eleventh on. -/
namespace Go.Proofs.Ytinibccphecdfaa
open Go.RowKit
set_option maxRecDepth 8000
set_option linter.unusedSimpArgs false
set_option linter.unusedVariables false

def setM : List Value → Nat → List Value → List Value
  | cs, _, [] => cs
  | cs, k, v :: r => setM (cs.set k v) (k + 1) r
theorem setM_len : ∀ (vs : List Value) (cs : List Value) (k : Nat), (setM cs k vs).length = cs.length
  | [], _, _ => rfl
  | v :: r, cs, k => by rw [setM, setM_len r, List.length_set]
theorem Blk.putM : ∀ (vs : List Value) {W : World} {b : Nat} {cs : List Value} (k : Nat), Blk W b cs → k + vs.length ≤ cs.length → Blk (W.setCells b k vs) b (setM cs k vs)
  | [], _, _, _, _, h, _ => h
  | v :: r, W, b, cs, k, h, hl => by
    simp at hl
    exact Blk.putM r (k + 1) (h.set k v (by omega)) (by simp; omega)
theorem Blk.thereM {W : World} {b : Nat} {cs : List Value} (h : Blk W b cs) (k m : Nat) (hl : k + m ≤ cs.length) : W.there b k m := fun j hj => by
  have := h (k + j) cs[k + j] (List.getElem?_eq_getElem (by omega))
  exact ⟨by rw [this.1]; rfl, this.2⟩
/-- A part of a struct's block is stored: the block, and what lies elsewhere. -/
theorem put_mid {W : World} {b : Nat} {cs : List Value} (h : BlkL b cs W) (k : Nat) (vs : List Value) (hl : k + vs.length ≤ cs.length) (hp : 0 < cs.length) {Z : World} (hb : Below Z.heap.size Z W) (hz : Z.heap.size ≤ b) :
    ∃ W', W.setCells b k vs = W' ∧ W.there b k vs.length ∧ BlkL b (setM cs k vs) W' ∧ Below Z.heap.size Z W' := by
  have h1 := Blk.putM vs k h.1 hl
  refine ⟨_, rfl, h.1.thereM k vs.length hl, ⟨h1, ?_⟩, Below.cells hz vs k hb⟩
  have hl2 : 0 < (setM cs k vs).length := by rw [setM_len]; exact hp
  exact h1.lt (List.getElem?_eq_getElem hl2)
theorem OwnR.mid {α : Type} {e : TypeId} {sz : Nat} {f : α → List Value} {w : World} {base g : Nat} {v : Value} {l : List α} (h : OwnR e sz f w base v l) (hg : v.ownBlock ≠ some g) (o : Nat) (vs : List Value) : OwnR e sz f (w.setCells g o vs) base v l :=
  h.keep fun k hk => heap_setCells_other (fun q => hg (by rw [hk, q])) vs o w
section
variable {ops : Array Oper} {rest : List Oper} {o : Oper} {a : Act} {w W : World} {Q : Exit → Act → World → Prop} {T : TypeId}
theorem wpList_store_part (hg : o.guard = none) (x y : Operand) (ho : o.op = .store T x y) (b k : Nat) (hx : a.eval x = .pointer (some ⟨b, k, none⟩)) (cs : List Value) (hy : a.eval y = .agg cs.toArray)
    (ht : w.there b k cs.length) (hi : (Try.prog.info? T).map (·.size) = some cs.length) (h1 : ∀ v ∈ cs, v.oneCell' = true) (hW : w.setCells b k cs = W)
    (h : wpList Try.prog ops Q rest (a.put o.dst undef) W) : wpList Try.prog ops Q (o :: rest) a w :=
  wpList_store_mid hg T x y ho b k cs.toArray hx hy ht hi (all_oneCell_toArray h1) (hW ▸ h)
theorem step_store_part {K : Act → World → Prop} {E : Prop} (hg : o.guard = none) (x y : Operand) (ho : o.op = .store T x y) (b k : Nat) (hx : a.eval x = .pointer (some ⟨b, k, none⟩)) (cs : List Value) (hy : a.eval y = .agg cs.toArray)
    (ht : w.there b k cs.length) (hi : (Try.prog.info? T).map (·.size) = some cs.length) (h1 : ∀ v ∈ cs, v.oneCell' = true) (hW : w.setCells b k cs = W) (hK : K (a.put o.dst undef) W) :
    if Region.wanted o (yielded ops a.tmps) = true then Oper.wp Try.prog o a w K Q else E := by
  have hw : Region.wanted o (yielded ops a.tmps) = true := by simp [Region.wanted, hg]
  rw [if_pos hw]
  exact wp_store_mid T x y ho b k cs.toArray hx hy ht hi (all_oneCell_toArray h1) (hW ▸ hK)
end
end Go.Proofs.Ytinibccphecdfaa

/-! BITS OF WORDS: a sum of parts that do not meet is their or; the low bits are a remainder; one bit turned. -/
namespace Go.Proofs.Ytinibccphecdfaa
open Go.RowKit
set_option maxRecDepth 8000
set_option linter.unusedSimpArgs false
set_option linter.unusedVariables false

theorem bor63 (a b : Nat) (ha : a < 9223372036854775808) (hb : b < 9223372036854775808) : bits .or .i64 (a : Int) (b : Int) = ((a ||| b : Nat) : Int) := by
  have hx : a ||| b < 2 ^ 63 := Nat.or_lt_two_pow (by omega) (by omega)
  show IntKind.i64.wrap ((BitVec.ofInt 64 (a : Int) ||| BitVec.ofInt 64 (b : Int)).toNat : Int) = _
  rw [BitVec.toNat_or, ofInt_nat a (by omega), ofInt_nat b (by omega), wrap_small _ (by omega)]
theorem or_sum {x k b : Nat} (hb : b < 2 ^ k) : (x * 2 ^ k) ||| b = x * 2 ^ k + b := by
  have := Nat.shiftLeft_add_eq_or_of_lt hb x
  rw [Nat.shiftLeft_eq] at this
  exact this.symm
/-- Two parts that do not meet. -/
theorem or_parts {x : Int} {b : Int} (k : Nat) (m : Int) (hm : m = ((2 ^ k : Nat) : Int)) (hx : 0 ≤ x) (hb0 : 0 ≤ b) (hb : b < m) (hs : x * m + b < 9223372036854775808) : bits .or .i64 (x * m) b = x * m + b := by
  obtain ⟨xn, rfl⟩ := Int.eq_ofNat_of_zero_le hx
  obtain ⟨bn, rfl⟩ := Int.eq_ofNat_of_zero_le hb0
  subst hm
  have e1 : ((xn : Int) * ((2 ^ k : Nat) : Int)) = ((xn * 2 ^ k : Nat) : Int) := by rw [Int.natCast_mul]
  rw [e1] at hs ⊢
  have h1 : xn * 2 ^ k + bn < 9223372036854775808 := by omega
  rw [bor63 _ _ (by omega) (by omega), or_sum (by omega), Int.natCast_add]
theorem or_ins {o p n : Int} (h0 : 0 ≤ o) (h1 : o ≤ 22) (h2 : 0 ≤ p) (h3 : p ≤ 3) : bits .or .i64 (bits .or .i64 (o * 72057594037927936) (p * 281474976710656)) (n % 4294967296) = o * 72057594037927936 + p * 281474976710656 + n % 4294967296 := by
  rw [or_parts 56 72057594037927936 (by decide) h0 (by omega) (by omega) (by omega)]
  have e : o * 72057594037927936 + p * 281474976710656 = (o * 256 + p) * 281474976710656 := by omega
  have e2 : (o * 256 + p) * 281474976710656 = ((o * 256 + p) * 65536) * 4294967296 := by omega
  rw [e, e2]
  exact or_parts 32 4294967296 (by decide) (by omega) (by omega) (by omega) (by omega)
theorem or_ptr {r s f : Int} (h0 : 0 ≤ r) (h1 : r < 8) (h2 : 0 ≤ s) (h3 : s < 65536) : bits .or .i64 (bits .or .i64 (r * 281474976710656) (s * 4294967296)) (f % 4294967296) = r * 281474976710656 + s * 4294967296 + f % 4294967296 := by
  rw [or_parts 48 281474976710656 (by decide) h0 (by omega) (by omega) (by omega)]
  have e : r * 281474976710656 + s * 4294967296 = (r * 65536 + s) * 4294967296 := by omega
  rw [e]
  exact or_parts 32 4294967296 (by decide) (by omega) (by omega) (by omega) (by omega)
theorem ofInt_any (x : Int) : (BitVec.ofInt 64 x).toNat = (x % 18446744073709551616).toNat := by
  rw [BitVec.toNat_ofInt]
  rfl
theorem and_low (k x : Nat) : x &&& (2 ^ k - 1) = x % 2 ^ k := Nat.and_two_pow_sub_one_eq_mod x k
theorem mask_nat (k : Nat) (hk : k ≤ 62) (x : Int) : ((x % 18446744073709551616).toNat % 2 ^ k : Nat) = (x % ((2 ^ k : Nat) : Int)).toNat := by
  have hd : ((2 ^ k : Nat) : Int) ∣ 18446744073709551616 := by
    have : (18446744073709551616 : Int) = ((2 ^ 64 : Nat) : Int) := by decide
    rw [this]
    exact Int.natCast_dvd_natCast.2 (Nat.pow_dvd_pow 2 (by omega))
  have hp : (0 : Int) < ((2 ^ k : Nat) : Int) := by exact_mod_cast Nat.two_pow_pos k
  have h1 : x % 18446744073709551616 % ((2 ^ k : Nat) : Int) = x % ((2 ^ k : Nat) : Int) := Int.emod_emod_of_dvd x hd
  have h0 : 0 ≤ x % 18446744073709551616 := by omega
  rw [← h1]
  obtain ⟨u, hu⟩ := Int.eq_ofNat_of_zero_le h0
  rw [hu, Int.toNat_natCast, ← Int.natCast_emod, Int.toNat_natCast]
/-- The low bits of a whole number. -/
theorem and_i64 (k : Nat) (hk : k ≤ 62) (m c : Int) (hm : m = ((2 ^ k : Nat) : Int)) (hc : c = m - 1) (x : Int) : bits .and .i64 x c = x % m := by
  have hp : 0 < 2 ^ k := Nat.two_pow_pos k
  have hk63 : 2 ^ k < 9223372036854775808 := Nat.lt_of_le_of_lt (Nat.pow_le_pow_right (by decide) hk) (by decide)
  have ec : c = ((2 ^ k - 1 : Nat) : Int) := by rw [hc, hm]; omega
  subst ec
  show IntKind.i64.wrap ((BitVec.ofInt 64 x &&& BitVec.ofInt 64 ((2 ^ k - 1 : Nat) : Int)).toNat : Int) = _
  rw [BitVec.toNat_and, ofInt_nat (2 ^ k - 1) (by omega), ofInt_any, and_low, mask_nat k hk, ← hm]
  have h0 : 0 ≤ x % m := Int.emod_nonneg _ (by omega)
  have h1 : x % m < m := Int.emod_lt_of_pos _ (by omega)
  rw [Int.toNat_of_nonneg h0, IntKind.wrap_i64]
  omega
theorem and_u64 (k : Nat) (hk : k ≤ 62) (m c : Int) (hm : m = ((2 ^ k : Nat) : Int)) (hc : c = m - 1) (x : Int) : bits .and .u64 x c = x % m := by
  have hp : 0 < 2 ^ k := Nat.two_pow_pos k
  have hk63 : 2 ^ k < 9223372036854775808 := Nat.lt_of_le_of_lt (Nat.pow_le_pow_right (by decide) hk) (by decide)
  have ec : c = ((2 ^ k - 1 : Nat) : Int) := by rw [hc, hm]; omega
  subst ec
  show IntKind.u64.wrap ((BitVec.ofInt 64 x &&& BitVec.ofInt 64 ((2 ^ k - 1 : Nat) : Int)).toNat : Int) = _
  rw [BitVec.toNat_and, ofInt_nat (2 ^ k - 1) (by omega), ofInt_any, and_low, mask_nat k hk, ← hm]
  have h0 : 0 ≤ x % m := Int.emod_nonneg _ (by omega)
  have h1 : x % m < m := Int.emod_lt_of_pos _ (by omega)
  rw [Int.toNat_of_nonneg h0, IntKind.wrap_u64]
  omega
/-- A bit that was nought, turned. -/
theorem xor_bit {h l k : Nat} (hl : l < 2 ^ k) : (h * 2 ^ (k + 1) + l) ^^^ 2 ^ k = h * 2 ^ (k + 1) + 2 ^ k + l := by
  have hl2 : l < 2 ^ (k + 1) := Nat.lt_of_lt_of_le hl (Nat.pow_le_pow_right (by decide) (Nat.le_succ k))
  have hs : 2 ^ k + l < 2 ^ (k + 1) := by rw [Nat.pow_succ]; omega
  have hb : (h * 2 ^ (k + 1) + l).testBit k = false := by
    rw [Nat.mul_comm, Nat.testBit_two_pow_mul_add _ hl2, if_pos (Nat.lt_succ_self k)]
    exact Nat.testBit_lt_two_pow hl
  have h1 : (h * 2 ^ (k + 1) + l) ^^^ 2 ^ k = (h * 2 ^ (k + 1) + l) ||| 2 ^ k := by
    apply Nat.eq_of_testBit_eq
    intro j
    rw [Nat.testBit_xor, Nat.testBit_or, Nat.testBit_two_pow]
    by_cases hj : k = j
    · subst hj; simp [hb]
    · simp [hj]
  have h2 : (1 * 2 ^ k) ||| l = 1 * 2 ^ k + l := or_sum hl
  rw [Nat.one_mul] at h2
  rw [h1, ← or_sum hl2, Nat.or_assoc, Nat.or_comm l, h2, or_sum hs]
  omega
theorem bxor63 (a b : Nat) (ha : a < 9223372036854775808) (hb : b < 9223372036854775808) : bits .xor .i64 (a : Int) (b : Int) = ((a ^^^ b : Nat) : Int) := by
  have hx : a ^^^ b < 2 ^ 63 := Nat.xor_lt_two_pow (by omega) (by omega)
  show IntKind.i64.wrap ((BitVec.ofInt 64 (a : Int) ^^^ BitVec.ofInt 64 (b : Int)).toNat : Int) = _
  rw [BitVec.toNat_xor, ofInt_nat a (by omega), ofInt_nat b (by omega), wrap_small _ (by omega)]
end Go.Proofs.Ytinibccphecdfaa

/-! THE DOCUMENT'S OWN INSTRUCTIONS (donjonref15): Encode, Decode, pointers, texts. Written by mk_isaref.py. -/
namespace Go.Proofs.Ytinibccphecdfaa
open Go.RowKit
set_option maxRecDepth 8000
set_option linter.unusedSimpArgs false
set_option linter.unusedVariables false

set_option maxRecDepth 8000 in
set_option maxHeartbeats 4000000 in
theorem riEnc_any (i : Ins) (w : World) : Calls Try.prog 29 #[i.v] w fun e w' => e = .returned (.tuple #[.int .i64 (insW i), .int .i64 (insE i)]) ∧ Below w.heap.size w w' := by
  have hb0 := blkl_alloc w (ins3 i).toArray 64
  have hB0 := alloc_below w (.cells (ins3 i).toArray 64)
  replace hb0 : BlkL w.heap.size (ins3 i) (w.alloc (.cells (ins3 i).toArray 64)) := hb0
  have z0 := (hb0.1 0 _ rfl).1
  have z1 := (hb0.1 1 _ rfl).1
  have z2 := (hb0.1 2 _ rfl).1
  clear hb0
  by_cases h0 : 0 ≤ i.o
  rotate_left
  · have hE : insE i = 3 := by
      unfold insE
      rw [if_pos (by omega)]
    have hW : insW i = 0 := by
      unfold insW
      rw [if_neg (by rw [hE]; decide)]
    have b0 : i.o < 0 := by omega
    clear h0
    replace hE : Aside (insE i = 3) := hE
    replace hW : Aside (insW i = 0) := hW
    go_enter Try.func29, Try.ntmps29
    go_upto_region 1 with fail
    generalize w.alloc (.cells #[.int .i64 i.o, .int .i64 i.p, .int .i64 i.n] 64) = W0 at *
    go_wp2_with fail
    refine bodyPost_ret (v := .tuple #[.int .i64 0, .int .i64 3]) (by simp [results, Try.results29, go_sem]) rfl ?_
    exact ⟨by rw [hW.out, hE.out], hB0⟩
  have g0 : ¬ i.o < 0 := by omega
  by_cases h1 : i.o ≤ 22
  rotate_left
  · have hE : insE i = 3 := by
      unfold insE
      rw [if_pos (by omega)]
    have hW : insW i = 0 := by
      unfold insW
      rw [if_neg (by rw [hE]; decide)]
    have b1 : 22 < i.o := by omega
    clear h1
    replace hE : Aside (insE i = 3) := hE
    replace hW : Aside (insW i = 0) := hW
    go_enter Try.func29, Try.ntmps29
    go_upto_region 1 with fail
    generalize w.alloc (.cells #[.int .i64 i.o, .int .i64 i.p, .int .i64 i.n] 64) = W0 at *
    go_wp2_with fail
    refine bodyPost_ret (v := .tuple #[.int .i64 0, .int .i64 3]) (by simp [results, Try.results29, go_sem]) rfl ?_
    exact ⟨by rw [hW.out, hE.out], hB0⟩
  have g1 : ¬ 22 < i.o := by omega
  by_cases h2 : 0 ≤ i.p
  rotate_left
  · have hE : insE i = 1 := by
      unfold insE
      rw [if_neg (by omega), if_pos (by omega)]
    have hW : insW i = 0 := by
      unfold insW
      rw [if_neg (by rw [hE]; decide)]
    have b2 : i.p < 0 := by omega
    clear h2
    replace hE : Aside (insE i = 1) := hE
    replace hW : Aside (insW i = 0) := hW
    go_enter Try.func29, Try.ntmps29
    go_upto_region 1 with fail
    generalize w.alloc (.cells #[.int .i64 i.o, .int .i64 i.p, .int .i64 i.n] 64) = W0 at *
    go_wp2_with fail
    refine bodyPost_ret (v := .tuple #[.int .i64 0, .int .i64 1]) (by simp [results, Try.results29, go_sem]) rfl ?_
    exact ⟨by rw [hW.out, hE.out], hB0⟩
  have g2 : ¬ i.p < 0 := by omega
  by_cases h3 : i.p ≤ 3
  rotate_left
  · have hE : insE i = 1 := by
      unfold insE
      rw [if_neg (by omega), if_pos (by omega)]
    have hW : insW i = 0 := by
      unfold insW
      rw [if_neg (by rw [hE]; decide)]
    have b3 : 3 < i.p := by omega
    clear h3
    replace hE : Aside (insE i = 1) := hE
    replace hW : Aside (insW i = 0) := hW
    go_enter Try.func29, Try.ntmps29
    go_upto_region 1 with fail
    generalize w.alloc (.cells #[.int .i64 i.o, .int .i64 i.p, .int .i64 i.n] 64) = W0 at *
    go_wp2_with fail
    refine bodyPost_ret (v := .tuple #[.int .i64 0, .int .i64 1]) (by simp [results, Try.results29, go_sem]) rfl ?_
    exact ⟨by rw [hW.out, hE.out], hB0⟩
  have g3 : ¬ 3 < i.p := by omega
  by_cases h4 : -2147483648 ≤ i.n
  rotate_left
  · have hE : insE i = 1 := by
      unfold insE
      rw [if_neg (by omega), if_pos (by omega)]
    have hW : insW i = 0 := by
      unfold insW
      rw [if_neg (by rw [hE]; decide)]
    have b4 : i.n < -2147483648 := by omega
    clear h4
    replace hE : Aside (insE i = 1) := hE
    replace hW : Aside (insW i = 0) := hW
    go_enter Try.func29, Try.ntmps29
    go_upto_region 1 with fail
    generalize w.alloc (.cells #[.int .i64 i.o, .int .i64 i.p, .int .i64 i.n] 64) = W0 at *
    go_wp2_with fail
    refine bodyPost_ret (v := .tuple #[.int .i64 0, .int .i64 1]) (by simp [results, Try.results29, go_sem]) rfl ?_
    exact ⟨by rw [hW.out, hE.out], hB0⟩
  have g4 : ¬ i.n < -2147483648 := by omega
  by_cases h5 : i.n ≤ 2147483647
  rotate_left
  · have hE : insE i = 1 := by
      unfold insE
      rw [if_neg (by omega), if_pos (by omega)]
    have hW : insW i = 0 := by
      unfold insW
      rw [if_neg (by rw [hE]; decide)]
    have b5 : 2147483647 < i.n := by omega
    clear h5
    replace hE : Aside (insE i = 1) := hE
    replace hW : Aside (insW i = 0) := hW
    go_enter Try.func29, Try.ntmps29
    go_upto_region 1 with fail
    generalize w.alloc (.cells #[.int .i64 i.o, .int .i64 i.p, .int .i64 i.n] 64) = W0 at *
    go_wp2_with fail
    refine bodyPost_ret (v := .tuple #[.int .i64 0, .int .i64 1]) (by simp [results, Try.results29, go_sem]) rfl ?_
    exact ⟨by rw [hW.out, hE.out], hB0⟩
  have g5 : ¬ 2147483647 < i.n := by omega
  have hE : insE i = 0 := insE_zero.2 ⟨⟨h0, h1⟩, h2, h3, h4, h5⟩
  have hW : insW i = bits .or .i64 (bits .or .i64 (i.o * 72057594037927936) (i.p * 281474976710656)) (i.n % 4294967296) := by rw [insW_eq hE, or_ins h0 h1 h2 h3]
  replace hE : Aside (insE i = 0) := hE
  replace hW : Aside (insW i = bits .or .i64 (bits .or .i64 (i.o * 72057594037927936) (i.p * 281474976710656)) (i.n % 4294967296)) := hW
  go_enter Try.func29, Try.ntmps29
  go_upto_region 1 with fail
  generalize w.alloc (.cells #[.int .i64 i.o, .int .i64 i.p, .int .i64 i.n] 64) = W0 at *
  go_wp2_with fail
  refine bodyPost_ret (v := .tuple #[.int .i64 (bits .or .i64 (bits .or .i64 (i.o * 72057594037927936) (i.p * 281474976710656)) (i.n % 4294967296)), .int .i64 0]) (by simp [results, Try.results29, go_sem]) rfl ?_
  exact ⟨by rw [hW.out, hE.out], hB0⟩
set_option maxRecDepth 8000 in
set_option maxHeartbeats 4000000 in
theorem riDec_any (x : Int) (hx : -9223372036854775808 ≤ x ∧ x ≤ 9223372036854775807) (w : World) : Calls Try.prog 20 #[.int .i64 x] w fun e w' => e = .returned (.tuple #[(decI x).v, .int .i64 (decE x)]) ∧ Below w.heap.size w w' := by
  have hund := Try.underlying64
  have hsz : (Try.prog.info? 64).map (·.size) = some 3 := by kernel_rfl
  obtain ⟨u, hu⟩ : ∃ u, u64 x = u := ⟨_, rfl⟩
  have hu' : IntKind.u64.wrap x = u := by rw [IntKind.wrap_u64, ← hu]; rfl
  have u0 : 0 ≤ u ∧ u < 18446744073709551616 := by rw [← hu]; unfold u64; omega
  obtain ⟨op, hop⟩ : ∃ op, u / 72057594037927936 = op := ⟨_, rfl⟩
  obtain ⟨pp, hpp⟩ : ∃ pp, u / 281474976710656 % 256 = pp := ⟨_, rfl⟩
  obtain ⟨mid, hmid⟩ : ∃ mid, u / 4294967296 % 65536 = mid := ⟨_, rfl⟩
  obtain ⟨low, hlow⟩ : ∃ low, u % 4294967296 = low := ⟨_, rfl⟩
  obtain ⟨nn, hnn⟩ : ∃ nn, wN x = nn := ⟨_, rfl⟩
  have hA0 : IntKind.i64.wrap op = op := by rw [IntKind.wrap_i64]; omega
  have hA1 : bits .and .u64 (u / 281474976710656) 255 = pp := by rw [and_u64 8 (by decide) 256 255 (by decide) (by decide), hpp]
  have hA2 : IntKind.i64.wrap pp = pp := by rw [IntKind.wrap_i64]; omega
  have hA3 : bits .and .u64 (u / 4294967296) 65535 = mid := by rw [and_u64 16 (by decide) 65536 65535 (by decide) (by decide), hmid]
  have hA4 : IntKind.u32.wrap x = low := by rw [IntKind.wrap_u32, ← hlow, ← hu]; unfold u64; omega
  have hA5 : IntKind.i32.wrap low = nn := by
    rw [IntKind.wrap_i32, ← hnn]
    unfold wN wLow
    rw [hu, hlow]
    split <;> omega
  have hA6 : IntKind.i64.wrap nn = nn := by
    have : -2147483648 ≤ nn ∧ nn < 2147483648 := by
      rw [← hnn]
      unfold wN wLow
      rw [hu]
      split <;> omega
    rw [IntKind.wrap_i64]
    omega
  have d1 : wOp x = op := by unfold wOp; rw [hu, hop]
  have d2 : wP x = pp := by unfold wP; rw [hu, hpp]
  have d3 : wMid x = mid := by unfold wMid; rw [hu, hmid]
  have hDE : Aside (decE x = if 22 < op then 3 else if 3 < pp then 1 else if mid ≠ 0 then 11 else 0) := by show decE x = _; unfold decE; rw [d1, d2, d3]
  have hDI : Aside (decI x = if decE x = 0 then ⟨op, pp, nn⟩ else ⟨0, 0, 0⟩) := by show decI x = _; unfold decI; rw [d1, d2, hnn]
  have hb0 := blkl_alloc w (ins3 ⟨0, 0, 0⟩).toArray 64
  have hB0 := alloc_below w (.cells (ins3 ⟨0, 0, 0⟩).toArray 64)
  clear d1 d2 d3 hu hnn hlow hmid hpp u0
  go_enter Try.func20, Try.ntmps20
  go_upto_region 2 with fail
  by_cases h1 : 22 < op
  · have hE : decE x = 3 := by rw [hDE.out, if_pos h1]
    have hI : Aside (decI x = ⟨0, 0, 0⟩) := by show decI x = _; rw [hDI.out, hE]; rfl
    replace hE : Aside (decE x = 3) := hE
    go_wp2_with fail
    refine bodyPost_ret (v := .tuple #[.agg #[.int .i64 0, .int .i64 0, .int .i64 0], .int .i64 3]) (by simp [results, Try.results20, go_sem]) rfl ?_
    exact ⟨by rw [hI.out, hE.out], alloc_below _ _⟩
  by_cases h2 : 3 < pp
  · have hE : decE x = 1 := by rw [hDE.out, if_neg h1, if_pos h2]
    have hI : Aside (decI x = ⟨0, 0, 0⟩) := by show decI x = _; rw [hDI.out, hE]; rfl
    replace hE : Aside (decE x = 1) := hE
    go_wp2_with fail
    refine bodyPost_ret (v := .tuple #[.agg #[.int .i64 0, .int .i64 0, .int .i64 0], .int .i64 1]) (by simp [results, Try.results20, go_sem]) rfl ?_
    exact ⟨by rw [hI.out, hE.out], alloc_below _ _⟩
  by_cases h3 : mid = 0
  rotate_left
  · have hE : decE x = 11 := by rw [hDE.out, if_neg h1, if_neg h2, if_pos h3]
    have hI : Aside (decI x = ⟨0, 0, 0⟩) := by show decI x = _; rw [hDI.out, hE]; rfl
    replace hE : Aside (decE x = 11) := hE
    replace h3 : (mid != 0) = true := by simpa using h3
    go_wp2_with fail
    refine bodyPost_ret (v := .tuple #[.agg #[.int .i64 0, .int .i64 0, .int .i64 0], .int .i64 11]) (by simp [results, Try.results20, go_sem]) rfl ?_
    exact ⟨by rw [hI.out, hE.out], alloc_below _ _⟩
  · subst h3
    have hE : decE x = 0 := by rw [hDE.out, if_neg h1, if_neg h2, if_neg (by simp)]
    have hI : Aside (decI x = ⟨op, pp, nn⟩) := by show decI x = _; rw [hDI.out, hE]; rfl
    replace hE : Aside (decE x = 0) := hE
    go_wp2_with fail
    refine bodyPost_ret (v := .tuple #[.agg #[.int .i64 op, .int .i64 pp, .int .i64 nn], .int .i64 0]) (by simp [results, Try.results20, go_sem]) rfl ?_
    exact ⟨by rw [hI.out, hE.out], alloc_below _ _⟩
set_option maxHeartbeats 2000000 in
theorem riEncP_any (p : Ptr) (w : World) : Calls Try.prog 44 #[p.v] w fun e w' => e = .returned (.int .i64 (ptrW p)) ∧ Below w.heap.size w w' := by
  have hb0 := blkl_alloc w (ptr3 p).toArray 24
  have hB0 := alloc_below w (.cells (ptr3 p).toArray 24)
  replace hb0 : BlkL w.heap.size (ptr3 p) (w.alloc (.cells (ptr3 p).toArray 24)) := hb0
  have z0 := (hb0.1 0 _ rfl).1
  have z1 := (hb0.1 1 _ rfl).1
  have z2 := (hb0.1 2 _ rfl).1
  have hA1 := and_i64 3 (by decide) 8 7 (by decide) (by decide) p.r
  have hA2 := and_i64 16 (by decide) 65536 65535 (by decide) (by decide) p.s
  have hW : Aside (ptrW p = bits .or .i64 (bits .or .i64 (p.r % 8 * 281474976710656) (p.s % 65536 * 4294967296)) (p.f % 4294967296)) := by
    show ptrW p = _
    rw [or_ptr (by omega) (by omega) (by omega) (by omega)]
    rfl
  clear hb0
  go_enter Try.func44, Try.ntmps44
  go_upto_region 1 with fail
  generalize w.alloc (.cells #[.int .i64 p.s, .int .i64 p.f, .int .i64 p.r] 24) = W0 at *
  go_wp2_with fail
  go_ret
  exact ⟨by rw [hW.out]; rfl, hB0⟩
set_option maxHeartbeats 2000000 in
theorem riDecP_any (x : Int) (hx : -9223372036854775808 ≤ x ∧ x ≤ 9223372036854775807) (w : World) : Calls Try.prog 42 #[.int .i64 x] w fun e w' => e = .returned (wPtr x).v ∧ Below w.heap.size w w' := by
  obtain ⟨u, hu⟩ : ∃ u, u64 x = u := ⟨_, rfl⟩
  have hu' : IntKind.u64.wrap x = u := by rw [IntKind.wrap_u64, ← hu]; rfl
  obtain ⟨rr, hrr⟩ : ∃ rr, u / 281474976710656 % 8 = rr := ⟨_, rfl⟩
  obtain ⟨mid, hmid⟩ : ∃ mid, u / 4294967296 % 65536 = mid := ⟨_, rfl⟩
  obtain ⟨low, hlow⟩ : ∃ low, u % 4294967296 = low := ⟨_, rfl⟩
  have hA1 : bits .and .u64 (u / 281474976710656) 7 = rr := by rw [and_u64 3 (by decide) 8 7 (by decide) (by decide), hrr]
  have hA2 : IntKind.i64.wrap rr = rr := by rw [IntKind.wrap_i64]; omega
  have hA3 : bits .and .u64 (u / 4294967296) 65535 = mid := by rw [and_u64 16 (by decide) 65536 65535 (by decide) (by decide), hmid]
  have hA4 : IntKind.u32.wrap x = low := by rw [IntKind.wrap_u32, ← hlow, ← hu]; unfold u64; omega
  have hA5 : IntKind.i64.wrap mid = mid := by rw [IntKind.wrap_i64]; omega
  have hA6 : IntKind.i64.wrap low = low := by rw [IntKind.wrap_i64]; omega
  have hP : Aside (wPtr x = ⟨mid, low, rr⟩) := by show wPtr x = _; unfold wPtr wMid wLow; rw [hu, hmid, hlow, hrr]
  clear hu hlow hmid hrr
  go_enter Try.func42, Try.ntmps42
  go_wp2_with fail
  refine bodyPost_ret (v := .agg #[.int .i64 mid, .int .i64 low, .int .i64 rr]) (by simp [results, Try.results42, go_sem]) rfl ?_
  exact ⟨by rw [hP.out], alloc_below _ _⟩
end Go.Proofs.Ytinibccphecdfaa

/-! WHAT THE LAWS OF CHAPTER 15 ASK OF PACKAGE isa, whatever it is made of; the laws' small functions. -/

namespace Go.Proofs.Ytinibccphecdfaa
open Go.RowKit
set_option maxRecDepth 8000
set_option linter.unusedSimpArgs false
set_option linter.unusedVariables false

section
variable {ops : Array Oper} {o : Oper} {a : Act} {S : World → Prop}
theorem yields_cellI {T : TypeId} (hw : Region.wanted o (yielded ops a.tmps) = true) (x : Operand) (ho : o.op = .load T x) (y : Addr) (hx : a.eval x = .pointer (some y)) (v : Value) (hS : ∀ w, S w → w.cell? y = some v) (hl : ∀ w y v, w.cell? y = some v → (Instr.loadAt T (.pointer (some y))).run Try.prog w = .ok v w) : YieldsIf Try.prog ops S o v a :=
  .inl ⟨hw, fun w hw' => by
    unfold execOp
    simp only [ho, hx, Sem.run_bind, hl w y v (hS w hw'), Result.andThen_ok]
    rfl⟩
end
theorem intI_load (w : World) (y : Addr) (v : Value) (h : w.cell? y = some v) : (Instr.loadAt 3 (.pointer (some y))).run Try.prog w = .ok v w := by
  have h1 := Try.underlying3
  go_simp
/-- What a text is read as: the instruction whose text it is, or none. -/
def ParR (s : ByteArray) (j : Ins) (f : Int) : Prop := (f = 0 ∧ IsT s j) ∨ (f = 6 ∧ j = ⟨0, 0, 0⟩ ∧ ∀ i, ¬ IsT s i)
theorem ParR.same {s : ByteArray} {j k : Ins} {f g : Int} (h : ParR s j f) (h2 : ParR s k g) : j = k ∧ f = g := by
  rcases h with ⟨rfl, h⟩ | ⟨rfl, rfl, h⟩
  · rcases h2 with ⟨rfl, h2⟩ | ⟨rfl, rfl, h2⟩
    · exact ⟨h.uniq h2, rfl⟩
    · exact absurd h (h2 j)
  · rcases h2 with ⟨rfl, h2⟩ | ⟨rfl, rfl, h2⟩
    · exact absurd h2 (h k)
    · exact ⟨rfl, rfl⟩
theorem ParR.of {s : ByteArray} {i j : Ins} {f : Int} (h : ParR s j f) (hi : IsT s i) : j = i ∧ f = 0 := h.same (.inl ⟨rfl, hi⟩)
theorem ParR.bad {s : ByteArray} {j : Ins} {f : Int} (h : ParR s j f) (hn : ∀ i, ¬ IsT s i) : f = 6 := by
  rcases h with ⟨rfl, h⟩ | ⟨rfl, rfl, h⟩
  · exact absurd h (hn j)
  · rfl
theorem ins3_one (i : Ins) : ∀ v ∈ ins3 i, v.oneCell' = true := fun v hv => by simp [ins3] at hv; rcases hv with rfl | rfl | rfl <;> rfl
/-- A box of one's own, put anew. -/
theorem put_box {W : World} {g : Nat} {i : Ins} (h : BlkL g (ins3 i) W) (j : Ins) : ∃ W', W.setCells g 0 (ins3 j) = W' ∧ W.there g 0 (ins3 j).length ∧ BlkL g (ins3 j) W' ∧ ∀ B W0, B ≤ g → Below B W0 W → Below B W0 W' := by
  have h1 : Blk (W.setCells g 0 (ins3 j)) g (ins3 j) := h.1.setAll rfl
  exact ⟨_, rfl, h.1.there, ⟨h1, h1.lt rfl⟩, fun B W0 hB h => Below.cells hB _ 0 h⟩
def fit64 (x : Int) : Prop := -9223372036854775808 ≤ x ∧ x ≤ 9223372036854775807
theorem insW_fit (i : Ins) : fit64 (insW i) := by
  have := insW_range (i := i)
  unfold fit64
  omega
theorem ptrW_fit (p : Ptr) : fit64 (ptrW p) := by
  unfold fit64 ptrW
  omega
/-- I w: what the calls lean on of the library's variables. -/
structure IsaOk (I : World → Prop) : Prop where
  dec : ∀ (x : Int) (_ : fit64 x) (w : World), I w → Calls Try.prog 67 #[.int .i64 x] w fun e w' => e = .returned (.tuple #[(decI x).v, .int .i64 (decE x)]) ∧ Below w.heap.size w w'
  encP : ∀ (p : Ptr) (w : World), I w → Calls Try.prog 60 #[p.v] w fun e w' => e = .returned (.int .i64 (ptrW p)) ∧ Below w.heap.size w w'
  decP : ∀ (x : Int) (_ : fit64 x) (w : World), I w → Calls Try.prog 89 #[.int .i64 x] w fun e w' => e = .returned (wPtr x).v ∧ Below w.heap.size w w'
set_option maxHeartbeats 400000 in
theorem w15_any (k m : Int) (h0 : 0 < m) (h1 : m < 1000000000000) (w : World) :
    Calls Try.prog 75 #[.int .i64 k, .int .i64 m] w fun e w' => e = .returned (.int .i64 (k % m)) ∧ w' = w := by
  have b1 := Int.lt_tmod_of_pos k h0
  have b2 := Int.tmod_lt_of_pos k h0
  have hm0 : ¬ m = 0 := by omega
  have hm1 : ¬ m = -1 := by omega
  by_cases hn : k.tmod m < 0
  · have e1 : k % m = k.tmod m + m := by
      rw [Int.tmod_eq_emod] at hn ⊢
      split at hn
      · have := Int.emod_nonneg k (by omega : m ≠ 0); omega
      · rename_i hc; rw [if_neg hc]; rw [Int.natAbs_of_nonneg (by omega)]; omega
    rw [e1]
    clear e1
    go_enter Try.func75, Try.ntmps75
    go_wp2
    go_ret
    exact ⟨rfl, rfl⟩
  · have e1 : k % m = k.tmod m := by
      rw [Int.tmod_eq_emod] at hn ⊢
      split
      · simp
      · rename_i hc
        rw [if_neg hc] at hn
        have := Int.emod_lt_of_pos k h0
        rw [Int.natAbs_of_nonneg (by omega)] at *
        omega
    rw [e1]
    clear e1
    go_enter Try.func75, Try.ntmps75
    go_wp2
    go_ret
    exact ⟨rfl, rfl⟩
set_option maxHeartbeats 2000000 in
theorem igood_any (i : Ins) (w : World) : Calls Try.prog 50 #[i.v] w fun e w' => e = .returned (goodI i).v ∧ Below w.heap.size w w' := by
  have hw : IntKind.i64.wrap (i.n % 4294967296 - 2147483648) = i.n % 4294967296 - 2147483648 := by rw [IntKind.wrap_i64]; omega
  go_enter Try.func50, Try.ntmps50
  go_wp2_with fail
  go_region_held (fun W => W.cell? ⟨w.heap.size, 0, none⟩ = some (.int .i64 i.o) ∧ W.cell? ⟨w.heap.size, 1, none⟩ = some (.int .i64 i.p) ∧ W.cell? ⟨w.heap.size, 2, none⟩ = some (.int .i64 i.n)) (go_keep)
    (first | (go_at_call 75; refine (w15_any _ _ (by decide) (by decide) _).mono ?_; rintro e w' ⟨rfl, rfl⟩) | fail)
  go_wp2
  exact bodyPost_ret (v := (goodI i).v) (by simp [results, Try.results50, go_sem, goodI, hw]) rfl ⟨rfl, (below2 _ _ _).drew⟩
def insQ (x y : Ins) : Bool := x.o == y.o && (x.p == y.p && x.n == y.n)
theorem insQ_self (x : Ins) : insQ x x = true := by simp [insQ]
theorem run_eql_ins (x y : Ins) (w : World) : (binOp .eql 64 x.v y.v).run Try.prog w = .ok (.bool (insQ x y)) w := by
  have h1 := Try.underlying64
  unfold insQ
  go_simp
  repeat' split
  all_goals simp_all
theorem run_neq_ins (x y : Ins) (w : World) : (binOp .neq 64 x.v y.v).run Try.prog w = .ok (.bool (!insQ x y)) w := by
  have h1 := Try.underlying64
  unfold insQ
  go_simp
  repeat' split
  all_goals simp_all
def ptrQ (x y : Ptr) : Bool := x.s == y.s && (x.f == y.f && x.r == y.r)
theorem ptrQ_self (x : Ptr) : ptrQ x x = true := by simp [ptrQ]
theorem run_eql_ptr (x y : Ptr) (w : World) : (binOp .eql 24 x.v y.v).run Try.prog w = .ok (.bool (ptrQ x y)) w := by
  have h1 := Try.underlying24
  unfold ptrQ
  go_simp
  repeat' split
  all_goals simp_all
theorem run_neq_ptr (x y : Ptr) (w : World) : (binOp .neq 24 x.v y.v).run Try.prog w = .ok (.bool (!ptrQ x y)) w := by
  have h1 := Try.underlying24
  unfold ptrQ
  go_simp
  repeat' split
  all_goals simp_all
end Go.Proofs.Ytinibccphecdfaa

/-! PROCESSORS AND SEGMENTS IN MEMORY. -/
namespace Go.Proofs.Ytinibccphecdfaa
open Go.RowKit
set_option maxRecDepth 8000
set_option linter.unusedSimpArgs false
set_option linter.unusedVariables false

/-- A processor's cells, its stack's slice a value. -/
def stCs (c : Cp) (v : Value) : List Value := [.int .i64 c.seg, .int .i64 c.off, .int .i64 c.ring, .int .i64 c.a] ++ (c.ps.flatMap ptr3 ++ [v, .bool c.hl])
theorem ptr3_len (p : Ptr) : (ptr3 p).length = 3 := rfl
theorem st_len {c : Cp} {v : Value} (h4 : c.ps.length = 4) : (stCs c v).length = 18 := by
  unfold stCs
  rw [List.length_append, List.length_append, flat_length ptr3_len, h4]
  rfl
theorem st_ptr {c : Cp} {v : Value} (h4 : c.ps.length = 4) {k j : Nat} (hk : k < 4) (hj : j < 3) : (stCs c v)[4 + k * 3 + j]? = (ptr3 (c.ps.getD k ⟨0, 0, 0⟩))[j]? := by
  unfold stCs
  rw [List.getElem?_append_right (by show 4 ≤ 4 + k * 3 + j; omega), show 4 + k * 3 + j - [Value.int .i64 c.seg, .int .i64 c.off, .int .i64 c.ring, .int .i64 c.a].length = k * 3 + j by show 4 + k * 3 + j - 4 = k * 3 + j; omega]
  rw [List.getElem?_append_left (by rw [flat_length ptr3_len, h4]; omega)]
  have hx : c.ps[k]? = some (c.ps.getD k ⟨0, 0, 0⟩) := by rw [List.getD_eq_getElem?_getD, List.getElem?_eq_getElem (by omega)]; rfl
  exact flat_at ptr3_len c.ps k j _ hx hj
theorem st_stk {c : Cp} {v : Value} (h4 : c.ps.length = 4) : (stCs c v)[16]? = some v := by
  unfold stCs
  rw [List.getElem?_append_right (by show 4 ≤ 16; omega), List.getElem?_append_right (by rw [flat_length ptr3_len, h4]; show 4 * 3 ≤ 16 - 4; omega), flat_length ptr3_len, h4]
  rfl
theorem st_hl {c : Cp} {v : Value} (h4 : c.ps.length = 4) : (stCs c v)[17]? = some (.bool c.hl) := by
  unfold stCs
  rw [List.getElem?_append_right (by show 4 ≤ 17; omega), List.getElem?_append_right (by rw [flat_length ptr3_len, h4]; show 4 * 3 ≤ 17 - 4; omega), flat_length ptr3_len, h4]
  rfl
/-- A processor in a block of one's own. -/
structure StAt (b : Nat) (c : Cp) (v : Value) (W : World) : Prop where
  ps : c.ps.length = 4
  blk : BlkL b (stCs c v) W
theorem StAt.seg {b : Nat} {c : Cp} {v : Value} {W : World} (h : StAt b c v W) : W.cell? ⟨b, 0, none⟩ = some (.int .i64 c.seg) := (h.blk.1 0 _ rfl).1
theorem StAt.off {b : Nat} {c : Cp} {v : Value} {W : World} (h : StAt b c v W) : W.cell? ⟨b, 1, none⟩ = some (.int .i64 c.off) := (h.blk.1 1 _ rfl).1
theorem StAt.ring {b : Nat} {c : Cp} {v : Value} {W : World} (h : StAt b c v W) : W.cell? ⟨b, 2, none⟩ = some (.int .i64 c.ring) := (h.blk.1 2 _ rfl).1
theorem StAt.a {b : Nat} {c : Cp} {v : Value} {W : World} (h : StAt b c v W) : W.cell? ⟨b, 3, none⟩ = some (.int .i64 c.a) := (h.blk.1 3 _ rfl).1
theorem StAt.stk {b : Nat} {c : Cp} {v : Value} {W : World} (h : StAt b c v W) : W.cell? ⟨b, 16, none⟩ = some v := (h.blk.1 16 _ (st_stk h.ps)).1
theorem StAt.hl {b : Nat} {c : Cp} {v : Value} {W : World} (h : StAt b c v W) : W.cell? ⟨b, 17, none⟩ = some (.bool c.hl) := (h.blk.1 17 _ (st_hl h.ps)).1
theorem StAt.ptr {b : Nat} {c : Cp} {v : Value} {W : World} (h : StAt b c v W) {k : Nat} (hk : k < 4) : W.rangeAt b (4 + k * 3) (ptr3 (c.ps.getD k ⟨0, 0, 0⟩)) := fun j u hu => by
  have hj : j < 3 := by have := (List.getElem?_eq_some_iff.1 hu).1; exact this
  exact (h.blk.1 _ u ((st_ptr h.ps hk hj).trans hu)).1
theorem StAt.keep {b : Nat} {c : Cp} {v : Value} {W : World} (h : StAt b c v W) {W' : World} (hb : Below W.heap.size W W') : StAt b c v W' := ⟨h.ps, stab_blk _ _ _ _ h.blk hb⟩
/-- A segment, and where its words lie. -/
structure PG where
  g : Sg
  wa : Option Addr
  wc : Nat
def wcl (x : Int) : List Value := [.int .i64 x]
def sgCs (g : Sg) (v : Value) : List Value := [.bool g.is, v, .int .i64 g.md, .int .i64 g.rg.a, .int .i64 g.rg.b, .int .i64 g.rg.c, .int .i64 g.rg.g]
def PG.v (x : PG) : Value := .slice x.wa x.g.ws.length x.wc
def PG.cs (x : PG) : List Value := sgCs x.g x.v
def PG.At (x : PG) (W : World) : Prop := RowAt 1 wcl W x.wa x.g.ws
def zeroPG : PG := ⟨zeroG, none, 0⟩
def knP (m : List PG) (k : Int) : PG := if k < 0 then zeroPG else m.getD k.toNat zeroPG
theorem knP_g (m : List PG) (k : Int) : (knP m k).g = kn (m.map (·.g)) k := by
  unfold knP kn
  split
  · rfl
  · rw [List.getD_eq_getElem?_getD, List.getD_eq_getElem?_getD, List.getElem?_map]
    cases m[k.toNat]? <;> rfl
theorem pg_len (x : PG) : x.cs.length = 7 := rfl
theorem pg_one (x : PG) : ∀ u ∈ x.cs, u.oneCell' = true := fun u hu => by
  simp [PG.cs, sgCs, PG.v] at hu
  rcases hu with rfl | rfl | rfl | rfl | rfl | rfl | rfl <;> rfl
/-- A row of segments. -/
structure RowG (W : World) (a : Option Addr) (m : List PG) : Prop where
  row : RowAt 7 PG.cs W a m
  at_ : ∀ x ∈ m, x.At W
theorem PG.At.below {x : PG} {w w' : World} (h : x.At w) (k : Below w.heap.size w w') : x.At w' := RowAt.below (fun _ => rfl) h k
theorem RowG.below {w w' : World} {a : Option Addr} {m : List PG} (h : RowG w a m) (k : Below w.heap.size w w') : RowG w' a m := ⟨h.row.below pg_len k, fun x hx => (h.at_ x hx).below k⟩
theorem zero_at (W : World) : zeroPG.At W := fun j x h => by simp [zeroPG, zeroG] at h
theorem knP_at {W : World} {a : Option Addr} {m : List PG} (h : RowG W a m) (k : Int) : (knP m k).At W := by
  unfold knP
  split
  · exact zero_at W
  · rw [List.getD_eq_getElem?_getD]
    cases e : m[k.toNat]? with
    | none => exact zero_at W
    | some x => exact h.at_ x (List.mem_of_getElem? e)
theorem below_drewN (w : World) (n : Nat) : Below w.heap.size w (w.drewN n) := by
  induction n with
  | zero => exact Below.refl _ _
  | succ k ih => exact ih.drew
set_option maxHeartbeats 2000000 in
theorem rar_any (o a b : Int) (w : World) : Calls Try.prog 40 #[.int .i64 o, .int .i64 a, .int .i64 b] w fun e w' => e = .returned (.int .i64 (arC o a b)) ∧ Below w.heap.size w w' := by
  by_cases c1 : o = 1
  · subst c1
    rw [show arC 1 a b = b from rfl]
    go_enter Try.func40, Try.ntmps40
    go_wp2_with fail
    go_ret
    exact ⟨rfl, Below.refl _ _⟩
  have n1 : (o == 1) = false := by simpa using c1
  by_cases c4 : o = 4
  · subst c4
    rw [show arC 4 a b = wrap64 (a + b) from rfl]
    go_enter Try.func40, Try.ntmps40
    go_wp2_with fail
    go_ret
    exact ⟨rfl, Below.refl _ _⟩
  have n4 : (o == 4) = false := by simpa using c4
  by_cases c5 : o = 5
  · subst c5
    rw [show arC 5 a b = wrap64 (a - b) from rfl]
    go_enter Try.func40, Try.ntmps40
    go_wp2_with fail
    go_ret
    exact ⟨rfl, Below.refl _ _⟩
  have n5 : (o == 5) = false := by simpa using c5
  by_cases c6 : o = 6
  · subst c6
    rw [show arC 6 a b = wrap64 (a * b) from rfl]
    go_enter Try.func40, Try.ntmps40
    go_wp2_with fail
    go_ret
    exact ⟨rfl, Below.refl _ _⟩
  have n6 : (o == 6) = false := by simpa using c6
  by_cases c7 : o = 7
  · subst c7
    have k := donjonref1_FAdd_any a b w
    rw [show arC 7 a b = fop .add a b from rfl]
    generalize fop .add a b = x at *
    go_enter Try.func40, Try.ntmps40
    go_wp2_with fail
    refine k.mono ?_
    rintro e W' ⟨rfl, n, rfl⟩
    go_wp2_with fail
    go_ret
    exact ⟨rfl, below_drewN w n⟩
  have n7 : (o == 7) = false := by simpa using c7
  by_cases c8 : o = 8
  · subst c8
    have k := donjonref1_FSub_any a b w
    rw [show arC 8 a b = fop .sub a b from rfl]
    generalize fop .sub a b = x at *
    go_enter Try.func40, Try.ntmps40
    go_wp2_with fail
    refine k.mono ?_
    rintro e W' ⟨rfl, n, rfl⟩
    go_wp2_with fail
    go_ret
    exact ⟨rfl, below_drewN w n⟩
  have n8 : (o == 8) = false := by simpa using c8
  by_cases c9 : o = 9
  · subst c9
    have k := donjonref1_FMul_any a b w
    rw [show arC 9 a b = fop .mul a b from rfl]
    generalize fop .mul a b = x at *
    go_enter Try.func40, Try.ntmps40
    go_wp2_with fail
    refine k.mono ?_
    rintro e W' ⟨rfl, n, rfl⟩
    go_wp2_with fail
    go_ret
    exact ⟨rfl, below_drewN w n⟩
  have n9 : (o == 9) = false := by simpa using c9
  by_cases c10 : o = 10
  · subst c10
    have k := donjonref1_FDiv_any a b w
    rw [show arC 10 a b = fop .quo a b from rfl]
    generalize fop .quo a b = x at *
    go_enter Try.func40, Try.ntmps40
    go_wp2_with fail
    refine k.mono ?_
    rintro e W' ⟨rfl, n, rfl⟩
    go_wp2_with fail
    go_ret
    exact ⟨rfl, below_drewN w n⟩
  have n10 : (o == 10) = false := by simpa using c10
  have k := donjonref1_FLess_any a b w
  have hx : arC o a b = less a b := by unfold arC; rw [if_neg c1, if_neg c4, if_neg c5, if_neg c6, if_neg c7, if_neg c8, if_neg c9, if_neg c10]
  rw [hx]
  generalize less a b = x at *
  clear hx c1 c4 c5 c6 c7 c8 c9 c10
  go_enter Try.func40, Try.ntmps40
  go_wp2_with fail
  refine k.mono ?_
  rintro e W' ⟨rfl, rfl⟩
  go_wp2_with fail
  go_ret
  exact ⟨rfl, Below.refl _ _⟩
theorem put_any {cs ds : List Value} {W : World} {g : Nat} (h : BlkL g cs W) (hl : cs.length = ds.length) (hp : 0 < ds.length) : ∃ W', W.setCells g 0 ds = W' ∧ W.there g 0 ds.length ∧ BlkL g ds W' ∧ ∀ B W0, B ≤ g → Below B W0 W → Below B W0 W' := by
  have h1 : Blk (W.setCells g 0 ds) g ds := h.1.setAll hl
  have ht := h.1.there
  rw [hl] at ht
  exact ⟨_, rfl, ht, ⟨h1, h1.lt (List.getElem?_eq_getElem hp)⟩, fun B W0 hB h => Below.cells hB _ 0 h⟩
theorem put_pg {W : World} {g : Nat} {x : PG} (h : BlkL g x.cs W) (y : PG) : ∃ W', W.setCells g 0 y.cs = W' ∧ W.there g 0 y.cs.length ∧ BlkL g y.cs W' ∧ ∀ B W0, B ≤ g → Below B W0 W → Below B W0 W' := put_any h rfl (by rw [pg_len]; decide)
set_option maxHeartbeats 2000000 in
theorem rkn_any (m : List PG) (a : Option Addr) (cap : Nat) (k : Int) (hm : m.length < 1000000) (w : World) (hG : RowG w a m) : Calls Try.prog 38 #[.slice a m.length cap, .int .i64 k] w fun e w' => e = .returned (.agg (knP m k).cs.toArray) ∧ Below w.heap.size w w' := by
  have hund := Try.underlying57
  have hsz : (Try.prog.info? 57).map (·.size) = some 7 := by kernel_rfl
  have hb0 := blkl_alloc w zeroPG.cs.toArray 57
  have hB0 := alloc_below w (.cells zeroPG.cs.toArray 57)
  replace hb0 : BlkL w.heap.size zeroPG.cs (w.alloc (.cells zeroPG.cs.toArray 57)) := hb0
  obtain ⟨W3, hW3, hth3, hb3, hk3⟩ := put_pg hb0 (knP m k)
  have hB3 := hk3 _ _ (Nat.le_refl _) hB0
  have hr3 := hb3.range
  by_cases h0 : k < 0 ∨ (m.length : Int) ≤ k
  · have e : knP m k = zeroPG := by
      unfold knP
      split
      · rfl
      · rw [List.getD_eq_getElem?_getD, List.getElem?_eq_none (by omega)]; rfl
    rw [e] at hW3 hb3 hr3 hth3 ⊢
    have hsplit : k < 0 ∨ (¬ k < 0 ∧ (m.length : Int) ≤ k) := by omega
    clear hk3 hb0 hG h0 e hb3
    rcases hsplit with h0 | ⟨h0, h1⟩
    · go_enter Try.func38, Try.ntmps38
      go_upto_region 1 with fail
      replace hW3 : (w.alloc (.cells #[.bool false, .slice none 0 0, .int .i64 0, .int .i64 0, .int .i64 0, .int .i64 0, .int .i64 0] 57)).setCells w.heap.size 0 zeroPG.cs = W3 := hW3
      replace hth3 : (w.alloc (.cells #[.bool false, .slice none 0 0, .int .i64 0, .int .i64 0, .int .i64 0, .int .i64 0, .int .i64 0] 57)).there w.heap.size 0 zeroPG.cs.length := hth3
      generalize w.alloc (.cells #[.bool false, .slice none 0 0, .int .i64 0, .int .i64 0, .int .i64 0, .int .i64 0, .int .i64 0] 57) = W0 at *
      go_wp2_with (first | (refine wpList_store_row rfl _ _ rfl w.heap.size rfl zeroPG.cs rfl hth3 hsz (pg_one _) hW3 ?_) | fail)
      refine bodyPost_ret (v := .agg zeroPG.cs.toArray) (results_row1 rfl _ _ w.heap.size rfl zeroPG.cs hr3 hund rfl hsz) rfl ?_
      exact ⟨rfl, hB3⟩
    · go_enter Try.func38, Try.ntmps38
      go_upto_region 1 with fail
      replace hW3 : (w.alloc (.cells #[.bool false, .slice none 0 0, .int .i64 0, .int .i64 0, .int .i64 0, .int .i64 0, .int .i64 0] 57)).setCells w.heap.size 0 zeroPG.cs = W3 := hW3
      replace hth3 : (w.alloc (.cells #[.bool false, .slice none 0 0, .int .i64 0, .int .i64 0, .int .i64 0, .int .i64 0, .int .i64 0] 57)).there w.heap.size 0 zeroPG.cs.length := hth3
      generalize w.alloc (.cells #[.bool false, .slice none 0 0, .int .i64 0, .int .i64 0, .int .i64 0, .int .i64 0, .int .i64 0] 57) = W0 at *
      go_wp2_with (first | (refine wpList_store_row rfl _ _ rfl w.heap.size rfl zeroPG.cs rfl hth3 hsz (pg_one _) hW3 ?_) | fail)
      refine bodyPost_ret (v := .agg zeroPG.cs.toArray) (results_row1 rfl _ _ w.heap.size rfl zeroPG.cs hr3 hund rfl hsz) rfl ?_
      exact ⟨rfl, hB3⟩
  obtain ⟨j, rfl, hj⟩ : ∃ j : Nat, k = (j : Int) ∧ j < m.length := ⟨k.toNat, by omega, by omega⟩
  obtain ⟨x, hx⟩ : ∃ x, m[j]? = some x := ⟨_, List.getElem?_eq_getElem hj⟩
  have e : knP m (j : Int) = x := by
    unfold knP
    rw [if_neg (by omega), List.getD_eq_getElem?_getD, Int.toNat_natCast, hx]
    rfl
  rw [e] at hW3 hb3 hr3 hth3 ⊢
  have hG1 := hG.below hB0
  obtain ⟨y, rfl, -⟩ := hG1.row j x hx
  have hcl := hG1.row.at pg_len hx
  have h0 : ¬ (j : Int) < 0 := by omega
  have h1 : ¬ (m.length : Int) ≤ (j : Int) := by omega
  have h2 : (j : Int) < (m.length : Int) := by omega
  clear hk3 hb0 hG e hb3 hG1 hx
  generalize m.length = ln at *
  go_enter Try.func38, Try.ntmps38
  go_upto_region 1 with fail
  replace hW3 : (w.alloc (.cells #[.bool false, .slice none 0 0, .int .i64 0, .int .i64 0, .int .i64 0, .int .i64 0, .int .i64 0] 57)).setCells w.heap.size 0 x.cs = W3 := hW3
  replace hth3 : (w.alloc (.cells #[.bool false, .slice none 0 0, .int .i64 0, .int .i64 0, .int .i64 0, .int .i64 0, .int .i64 0] 57)).there w.heap.size 0 x.cs.length := hth3
  replace hcl : CellsAt (w.alloc (.cells #[.bool false, .slice none 0 0, .int .i64 0, .int .i64 0, .int .i64 0, .int .i64 0, .int .i64 0] 57)) (y.add (j * 7)) x.cs := hcl
  generalize w.alloc (.cells #[.bool false, .slice none 0 0, .int .i64 0, .int .i64 0, .int .i64 0, .int .i64 0, .int .i64 0] 57) = W0 at *
  go_wp2_with (first | (refine wpList_load_at rfl _ rfl (y.add (j * 7)) rfl x.cs hcl hund rfl hsz ?_) | (refine wpList_store_row rfl _ _ rfl w.heap.size rfl x.cs rfl hth3 hsz (pg_one _) hW3 ?_) | fail)
  refine bodyPost_ret (v := .agg x.cs.toArray) (results_row1 rfl _ _ w.heap.size rfl x.cs hr3 hund rfl hsz) rfl ?_
  exact ⟨rfl, hB3⟩
end Go.Proofs.Ytinibccphecdfaa

/-! THE CONTRACTS OF THE DOCUMENT'S OWN Class AND FMax: they answer what the program's do. -/
namespace Go.Proofs.Ytinibccphecdfaa
open Go.RowKit
set_option maxRecDepth 8000

theorem wrap_U (a : Int) : IntKind.u64.wrap a = ((U a : Nat) : Int) := by unfold U; rw [IntKind.wrap_u64]; omega

/-- The exponent's and the fraction's field. -/
def ex (a : Int) : Nat := rung (U a) / 4503599627370496
def fr (a : Int) : Nat := rung (U a) % 4503599627370496

theorem ex_bits (a : Int) : bits .and .u64 (IntKind.u64.wrap a / 4503599627370496) 2047 = ((ex a : Nat) : Int) := by
  have h := U_lt a
  rw [wrap_U]
  have e : ((U a : Nat) : Int) / 4503599627370496 = ((U a / 4503599627370496 : Nat) : Int) := by omega
  rw [e, show (2047 : Int) = ((2047 : Nat) : Int) from rfl, u64_and_nat _ _ (by omega) (by decide), nat_mask11]
  unfold ex rung
  omega
theorem fr_bits (a : Int) : bits .and .u64 (IntKind.u64.wrap a) 4503599627370495 = ((fr a : Nat) : Int) := by
  have h := U_lt a
  rw [wrap_U, show (4503599627370495 : Int) = ((4503599627370495 : Nat) : Int) from rfl, u64_and_nat _ _ (by omega) (by decide), nat_mask52]
  unfold fr rung
  omega

/-- The greater one, as the document's own text picks it. -/
def rmax (a b : Int) : Int :=
  if 9218868437227405312 < rung (U a) then NAN else if 9218868437227405312 < rung (U b) then NAN
  else if key (U b) < key (U a) then a else if key (U a) < key (U b) then b else if a < 0 then b else a

theorem fmax_rmax {a b : Int} (a0 : -9223372036854775808 ≤ a) (a1 : a ≤ 9223372036854775807) (b0 : -9223372036854775808 ≤ b) (b1 : b ≤ 9223372036854775807) : fmax a b = rmax a b := by
  unfold rmax
  rcases fmax_cases a0 a1 b0 b1 with ⟨h, e⟩ | ⟨h1, h2, ⟨h3, e⟩ | ⟨h3, e⟩ | ⟨h3, e⟩⟩
  · rw [e]
    rcases h with h | h
    · rw [if_pos h]
    · rw [if_pos h]; split <;> rfl
  · rw [e, if_neg (by omega), if_neg (by omega), if_pos h3]
  · rw [e, if_neg (by omega), if_neg (by omega), if_neg (by omega), if_pos h3]
  · rw [e, if_neg (show ¬ 9218868437227405312 < rung (U a) by omega), if_neg (show ¬ 9218868437227405312 < rung (U b) by omega), if_neg (show ¬ key (U b) < key (U a) by omega), if_neg (show ¬ key (U a) < key (U b) by omega)]

end Go.Proofs.Ytinibccphecdfaa
