/-
  LABELS, FOR THE STAGES BEHIND THE FOURTH: their numbers, package label's functions and the document's own (donjonref4), as far as the program has them; the lattice in plain words.
-/
import Derived.Test.YtjpabjmicaopcaaCommon
import Derived.Deep.RegionHeld
namespace Go.Proofs.Ytjpabjmicaopcaa
open Go.RowKit
set_option maxRecDepth 8000
set_option linter.unusedSimpArgs false
set_option linter.unusedVariables false

theorem alloc_below (w : World) (o : Obj) : Below w.heap.size w (w.alloc o) := (Below.refl _ _).alloc (Nat.le_refl _) _
/-- A label's four numbers; its value. -/
structure Lab where
  s : Int
  c : Int
  i : Int
  k : Int
abbrev Lab.v (l : Lab) : Value := .agg #[.int .i64 l.s, .int .i64 l.c, .int .i64 l.i, .int .i64 l.k]
def gmax (a b : Int) : Int := if b > a then b else a
def gmin (a b : Int) : Int := if b < a then b else a
def joinL (a b : Lab) : Lab := ⟨gmax a.s b.s, bits .or .i64 a.c b.c, gmin a.i b.i, bits .and .i64 a.k b.k⟩
def meetL (a b : Lab) : Lab := ⟨gmin a.s b.s, bits .and .i64 a.c b.c, gmax a.i b.i, bits .or .i64 a.k b.k⟩
def goodL (l : Lab) : Lab := ⟨l.s % 4, l.c % 256, l.i % 4, l.k % 256⟩
def bottomL : Lab := ⟨0, 0, 3, 255⟩

theorem und : Try.prog.underlying 24 = some (.struct (Try.prog.fieldsOf 24)) := by kernel_rfl

set_option maxHeartbeats 400000 in
theorem lw_any (k m : Int) (h0 : 0 < m) (h1 : m < 1000000) (w : World) :
    Calls Try.prog 35 #[.int .i64 k, .int .i64 m] w fun e w' => e = .returned (.int .i64 (k % m)) ∧ w' = w := by
  have b1 := Int.lt_tmod_of_pos k h0
  have b2 := Int.tmod_lt_of_pos k h0
  have hm0 : ¬ m = 0 := by omega
  have hm1 : ¬ m = -1 := by omega
  by_cases hn : k.tmod m < 0
  · have e1 : k % m = k.tmod m + m := by
      rw [Int.tmod_eq_emod] at hn ⊢
      split at hn
      · have := Int.emod_nonneg k (by omega : m ≠ 0); omega
      · rename_i hc; rw [if_neg hc]; rw [Int.natAbs_of_nonneg (by omega)]; omega
    rw [e1]
    clear e1
    go_enter Try.func35, Try.ntmps35
    go_wp2
    go_ret
    exact ⟨rfl, rfl⟩
  · have e1 : k % m = k.tmod m := by
      rw [Int.tmod_eq_emod] at hn ⊢
      split
      · simp
      · rename_i hc
        rw [if_neg hc] at hn
        have := Int.emod_lt_of_pos k h0
        rw [Int.natAbs_of_nonneg (by omega)] at *
        omega
    rw [e1]
    clear e1
    go_enter Try.func35, Try.ntmps35
    go_wp2
    go_ret
    exact ⟨rfl, rfl⟩

theorem below3 (w : World) (a b c : Obj) : Below w.heap.size w (((w.alloc a).alloc b).alloc c) :=
  (((Below.refl _ _).alloc (Nat.le_refl _) _).alloc (by simp) _).alloc (by simp; omega) _

set_option maxHeartbeats 400000 in
theorem ljoin_any (a b : Lab) (w : World) :
    Calls Try.prog 38 #[a.v, b.v] w fun e w' => e = .returned (joinL a b).v ∧ Below w.heap.size w w' := by
  go_enter Try.func38, Try.ntmps38
  go_wp2
  all_goals (refine bodyPost_ret (v := (joinL a b).v) (by simp [results, Try.results38, go_sem, joinL, gmax, gmin, *] <;> omega) rfl ⟨rfl, below3 _ _ _ _⟩)



def lessL (a b : Lab) : Bool := if (a.s != b.s) = true then decide (a.s < b.s) else if (a.c != b.c) = true then decide (a.c < b.c) else if (a.i != b.i) = true then decide (a.i < b.i) else decide (a.k < b.k)
theorem below2 (w : World) (a b : Obj) : Below w.heap.size w ((w.alloc a).alloc b) := ((Below.refl _ _).alloc (Nat.le_refl _) _).alloc (by simp) _

set_option maxHeartbeats 400000 in
theorem good_any (l : Lab) (w : World) :
    Calls Try.prog 25 #[l.v] w fun e w' => e = .returned (goodL l).v ∧ Below w.heap.size w w' := by
  go_enter Try.func25, Try.ntmps25
  go_wp2_with fail
  go_region_held (fun W => W.cell? ⟨w.heap.size, 0, none⟩ = some (.int .i64 l.s) ∧ W.cell? ⟨w.heap.size, 1, none⟩ = some (.int .i64 l.c) ∧ W.cell? ⟨w.heap.size, 2, none⟩ = some (.int .i64 l.i) ∧ W.cell? ⟨w.heap.size, 3, none⟩ = some (.int .i64 l.k)) (go_keep)
    (first | (go_at_call 35; refine (lw_any _ _ (by decide) (by decide) _).mono ?_; rintro e w' ⟨rfl, rfl⟩) | fail)
  go_wp2
  exact bodyPost_ret (v := (goodL l).v) (by simp [results, Try.results25, go_sem, goodL]) rfl ⟨rfl, (below2 _ _ _).drew⟩

/-- Labels as structs are compared field by field. -/
def labEq (x y : Lab) : Bool := x.s == y.s && (x.c == y.c && (x.i == y.i && x.k == y.k))
theorem labEq_iff (x y : Lab) : labEq x y = true ↔ x = y := by
  cases x; cases y; simp [labEq]
theorem run_eql_lab (x y : Lab) (w : World) : (binOp .eql 24 x.v y.v).run Try.prog w = .ok (.bool (labEq x y)) w := by
  have e : labEq x y = (x.s == y.s && (x.c == y.c && (x.i == y.i && x.k == y.k))) := rfl
  rw [e]
  go_simp
  repeat' split
  all_goals simp_all
theorem run_neq_lab (x y : Lab) (w : World) : (binOp .neq 24 x.v y.v).run Try.prog w = .ok (.bool (!labEq x y)) w := by
  have e : labEq x y = (x.s == y.s && (x.c == y.c && (x.i == y.i && x.k == y.k))) := rfl
  rw [e]
  go_simp
  repeat' split
  all_goals simp_all

/-- A label in a block of its own. -/
abbrev Boxed (W : World) (g : Nat) (l : Lab) : Prop := W.cell? ⟨g, 0, none⟩ = some (.int .i64 l.s) ∧ W.cell? ⟨g, 1, none⟩ = some (.int .i64 l.c) ∧ W.cell? ⟨g, 2, none⟩ = some (.int .i64 l.i) ∧ W.cell? ⟨g, 3, none⟩ = some (.int .i64 l.k)
theorem Boxed.keep {W W' : World} {g : Nat} {l : Lab} (h : Boxed W g l) (hb : Below W.heap.size W W') : Boxed W' g l := by
  obtain ⟨a, b, c, d⟩ := h
  have hg := World.block_lt_of_cell? _ _ a
  exact ⟨(hb.cell (p := ⟨g, 0, none⟩) hg).trans a, (hb.cell (p := ⟨g, 1, none⟩) hg).trans b, (hb.cell (p := ⟨g, 2, none⟩) hg).trans c, (hb.cell (p := ⟨g, 3, none⟩) hg).trans d⟩
theorem keep2 {W W' : World} {g g' : Nat} {l l' : Lab} (hb : Below W.heap.size W W') (h : Boxed W g l ∧ Boxed W g' l') : Boxed W' g l ∧ Boxed W' g' l' := ⟨h.1.keep hb, h.2.keep hb⟩
theorem boxed_alloc (w : World) (l : Lab) : Boxed (w.alloc (.cells #[.int .i64 l.s, .int .i64 l.c, .int .i64 l.i, .int .i64 l.k] 24)) w.heap.size l := by
  refine ⟨?_, ?_, ?_, ?_⟩ <;> simp [World.cell?_alloc_at]

def inB (n m : Int) : Bool := decide (0 ≤ n) && decide (n ≤ m)
set_option maxHeartbeats 400000 in
theorem labwithin_any (n m : Int) (w : World) :
    Calls Try.prog 40 #[.int .i64 n, .int .i64 m] w fun e w' => e = .returned (.bool (inB n m)) ∧ w' = w := by
  unfold inB
  by_cases h : 0 ≤ n
  · go_enter Try.func40, Try.ntmps40
    go_wp2
    go_ret
    exact ⟨by simp [h], rfl⟩
  · have h' : decide (0 ≤ n) = false := by simpa using h
    go_enter Try.func40, Try.ntmps40
    go_wp2
    go_ret
    exact ⟨by simp, rfl⟩


set_option maxHeartbeats 400000 in
theorem lover_any (a b : Lab) (w : World) :
    Calls Try.prog 27 #[a.v, b.v] w fun e w' => e = .returned (.bool (labEq (joinL a b) a)) ∧ Below w.heap.size w w' := by
  have heq := run_eql_lab
  have hS := keep2 (Below.refl _ _).drew ⟨(boxed_alloc w a).keep ((Below.refl _ _).alloc (Nat.le_refl _) (.cells #[.int .i64 b.s, .int .i64 b.c, .int .i64 b.i, .int .i64 b.k] 24)), boxed_alloc (w.alloc (.cells #[.int .i64 a.s, .int .i64 a.c, .int .i64 a.i, .int .i64 a.k] 24)) b⟩
  have hz : (w.alloc (.cells #[.int .i64 a.s, .int .i64 a.c, .int .i64 a.i, .int .i64 a.k] 24)).heap.size = w.heap.size + 1 := by simp
  rw [hz] at hS
  have hB := below2 w (.cells #[.int .i64 a.s, .int .i64 a.c, .int .i64 a.i, .int .i64 a.k] 24) (.cells #[.int .i64 b.s, .int .i64 b.c, .int .i64 b.i, .int .i64 b.k] 24)
  go_enter Try.func27, Try.ntmps27
  go_wp2_with fail
  generalize ((w.alloc (.cells #[.int .i64 a.s, .int .i64 a.c, .int .i64 a.i, .int .i64 a.k] 24)).alloc (.cells #[.int .i64 b.s, .int .i64 b.c, .int .i64 b.i, .int .i64 b.k] 24)) = W0 at hS hB ⊢
  go_region_held (fun W => Boxed W w.heap.size a ∧ Boxed W (w.heap.size + 1) b) (first | exact hS | exact keep2 (by assumption) (by assumption))
    (first | (go_at_call 38; refine (ljoin_any a b _).mono ?_; rintro e w1 ⟨rfl, hb⟩) | fail)
  go_wp2
  go_ret
  exact ⟨rfl, Below.then hB.drew hb⟩

def okL (l : Lab) : Bool := inB l.s 3 && inB l.c 255 && inB l.i 3 && inB l.k 255
def chkL (l : Lab) : Int := if okL l = true then 0 else 1
set_option maxHeartbeats 1000000 in
theorem lcheck_any (l : Lab) (w : World) :
    Calls Try.prog 37 #[l.v] w fun e w' => e = .returned (.int .i64 (chkL l)) ∧ Below w.heap.size w w' := by
  have hc := labwithin_any
  cases h0 : inB l.s 3
  · have e : chkL l = 1 := by simp [chkL, okL, h0]
    rw [e]
    go_enter Try.func37, Try.ntmps37
    go_wp2_with (go_at_call 40; refine (hc _ _ _).mono ?_; rintro e w' ⟨rfl, rfl⟩)
    go_ret
    exact ⟨rfl, (Below.refl _ _).alloc (Nat.le_refl _) _⟩
  cases h1 : inB l.c 255
  · have e : chkL l = 1 := by simp [chkL, okL, h1]
    rw [e]
    go_enter Try.func37, Try.ntmps37
    go_wp2_with (go_at_call 40; refine (hc _ _ _).mono ?_; rintro e w' ⟨rfl, rfl⟩)
    go_ret
    exact ⟨rfl, (Below.refl _ _).alloc (Nat.le_refl _) _⟩
  cases h2 : inB l.i 3
  · have e : chkL l = 1 := by simp [chkL, okL, h2]
    rw [e]
    go_enter Try.func37, Try.ntmps37
    go_wp2_with (go_at_call 40; refine (hc _ _ _).mono ?_; rintro e w' ⟨rfl, rfl⟩)
    go_ret
    exact ⟨rfl, (Below.refl _ _).alloc (Nat.le_refl _) _⟩
  cases h3 : inB l.k 255
  · have e : chkL l = 1 := by simp [chkL, okL, h3]
    rw [e]
    go_enter Try.func37, Try.ntmps37
    go_wp2_with (go_at_call 40; refine (hc _ _ _).mono ?_; rintro e w' ⟨rfl, rfl⟩)
    go_ret
    exact ⟨rfl, (Below.refl _ _).alloc (Nat.le_refl _) _⟩
  have e : chkL l = 0 := by simp [chkL, okL, h0, h1, h2, h3]
  rw [e]
  go_enter Try.func37, Try.ntmps37
  go_wp2_with (go_at_call 40; refine (hc _ _ _).mono ?_; rintro e w' ⟨rfl, rfl⟩)
  go_ret
  exact ⟨rfl, (Below.refl _ _).alloc (Nat.le_refl _) _⟩
theorem ofInt_nat (a : Nat) (h : a < 9223372036854775808) : (BitVec.ofInt 64 (a : Int)).toNat = a := by
  rw [BitVec.ofInt_natCast, BitVec.toNat_ofNat]; exact Nat.mod_eq_of_lt (by omega)
theorem wrap_small (a : Nat) (h : a < 9223372036854775808) : IntKind.i64.wrap (a : Int) = (a : Int) := by
  rw [IntKind.wrap_i64]; omega
theorem bor (a b : Nat) (ha : a < 256) (hb : b < 256) : bits .or .i64 (a : Int) (b : Int) = ((a ||| b : Nat) : Int) := by
  have hx : a ||| b < 2 ^ 8 := Nat.or_lt_two_pow (by omega) (by omega)
  show IntKind.i64.wrap ((BitVec.ofInt 64 (a : Int) ||| BitVec.ofInt 64 (b : Int)).toNat : Int) = _
  rw [BitVec.toNat_or, ofInt_nat a (by omega), ofInt_nat b (by omega), wrap_small _ (by omega)]
theorem band (a b : Nat) (ha : a < 256) (hb : b < 256) : bits .and .i64 (a : Int) (b : Int) = ((a &&& b : Nat) : Int) := by
  have hx : a &&& b < 2 ^ 8 := Nat.and_lt_two_pow a (by omega)
  show IntKind.i64.wrap ((BitVec.ofInt 64 (a : Int) &&& BitVec.ofInt 64 (b : Int)).toNat : Int) = _
  rw [BitVec.toNat_and, ofInt_nat a (by omega), ofInt_nat b (by omega), wrap_small _ (by omega)]

/-- A label that may be. -/
structure GL (l : Lab) : Prop where
  s0 : 0 ≤ l.s
  s1 : l.s ≤ 3
  c0 : 0 ≤ l.c
  c1 : l.c ≤ 255
  i0 : 0 ≤ l.i
  i1 : l.i ≤ 3
  k0 : 0 ≤ l.k
  k1 : l.k ≤ 255
theorem good_GL (l : Lab) : GL (goodL l) := by
  constructor <;> simp only [goodL] <;> omega
theorem bottom_GL : GL bottomL := by constructor <;> decide
/-- Its numbers as natural ones. -/
theorem GL.nat {l : Lab} (h : GL l) : ∃ s c i k : Nat, l = ⟨s, c, i, k⟩ ∧ s < 4 ∧ c < 256 ∧ i < 4 ∧ k < 256 := by
  obtain ⟨a, b, c, d, e, f, g, i⟩ := h
  obtain ⟨s, hs⟩ := Int.eq_ofNat_of_zero_le a
  obtain ⟨c', hc⟩ := Int.eq_ofNat_of_zero_le c
  obtain ⟨i', hi⟩ := Int.eq_ofNat_of_zero_le e
  obtain ⟨k', hk⟩ := Int.eq_ofNat_of_zero_le g
  refine ⟨s, c', i', k', ?_, by omega, by omega, by omega, by omega⟩
  cases l
  simp_all

/-- Join and meet of natural numbers. -/
structure NL where
  s : Nat
  c : Nat
  i : Nat
  k : Nat
def NL.lab (l : NL) : Lab := ⟨l.s, l.c, l.i, l.k⟩
def NL.ok (l : NL) : Prop := l.s < 4 ∧ l.c < 256 ∧ l.i < 4 ∧ l.k < 256
def NL.join (a b : NL) : NL := ⟨max a.s b.s, a.c ||| b.c, min a.i b.i, a.k &&& b.k⟩
def NL.meet (a b : NL) : NL := ⟨min a.s b.s, a.c &&& b.c, max a.i b.i, a.k ||| b.k⟩
def NL.bot : NL := ⟨0, 0, 3, 255⟩
theorem bot_lab : NL.bot.lab = bottomL := rfl
theorem bot_ok : NL.bot.ok := by simp [NL.bot, NL.ok]
theorem GL.nl {l : Lab} (h : GL l) : ∃ n : NL, l = n.lab ∧ n.ok :=
  let ⟨s, c, i, k, e, h1, h2, h3, h4⟩ := h.nat
  ⟨⟨s, c, i, k⟩, e, h1, h2, h3, h4⟩
theorem gmax_nat (a b : Nat) : gmax (a : Int) (b : Int) = ((max a b : Nat) : Int) := by unfold gmax; split <;> omega
theorem gmin_nat (a b : Nat) : gmin (a : Int) (b : Int) = ((min a b : Nat) : Int) := by unfold gmin; split <;> omega
theorem join_lab {a b : NL} (ha : a.ok) (hb : b.ok) : joinL a.lab b.lab = (a.join b).lab := by
  simp only [joinL, NL.lab, NL.join, gmax_nat, gmin_nat, bor _ _ ha.2.1 hb.2.1, band _ _ ha.2.2.2 hb.2.2.2]
theorem meet_lab {a b : NL} (ha : a.ok) (hb : b.ok) : meetL a.lab b.lab = (a.meet b).lab := by
  simp only [meetL, NL.lab, NL.meet, gmax_nat, gmin_nat, bor _ _ ha.2.2.2 hb.2.2.2, band _ _ ha.2.1 hb.2.1]
theorem lab_inj {a b : NL} : a.lab = b.lab ↔ a = b := by
  cases a; cases b; simp only [NL.lab, Lab.mk.injEq, NL.mk.injEq]; omega
theorem join_ok {a b : NL} (ha : a.ok) (hb : b.ok) : (a.join b).ok := by
  obtain ⟨a1, a2, a3, a4⟩ := ha
  obtain ⟨b1, b2, b3, b4⟩ := hb
  refine ⟨by simp only [NL.join]; omega, Nat.or_lt_two_pow (n := 8) a2 b2, by simp only [NL.join]; omega, Nat.and_lt_two_pow (n := 8) _ b4⟩
theorem meet_ok {a b : NL} (ha : a.ok) (hb : b.ok) : (a.meet b).ok := by
  obtain ⟨a1, a2, a3, a4⟩ := ha
  obtain ⟨b1, b2, b3, b4⟩ := hb
  refine ⟨by simp only [NL.meet]; omega, Nat.and_lt_two_pow (n := 8) _ b2, by simp only [NL.meet]; omega, Nat.or_lt_two_pow (n := 8) a4 b4⟩
theorem lab_GL {a : NL} (h : a.ok) : GL a.lab := by
  obtain ⟨a1, a2, a3, a4⟩ := h
  constructor <;> simp only [NL.lab] <;> omega
/-- a is over b. -/
def NL.over (a b : NL) : Prop := a.join b = a
theorem over_iff {a b : NL} : a.over b ↔ b.s ≤ a.s ∧ a.c ||| b.c = a.c ∧ a.i ≤ b.i ∧ a.k &&& b.k = a.k := by
  cases a; cases b; simp only [NL.over, NL.join, NL.mk.injEq]; omega
theorem or_and (a b : Nat) : a ||| b = a ↔ a &&& b = b := by
  constructor
  · intro h; rw [← h]; apply Nat.eq_of_testBit_eq; intro i; cases ha : a.testBit i <;> cases hb : b.testBit i <;> simp [ha, hb]
  · intro h; rw [← h]; apply Nat.eq_of_testBit_eq; intro i; cases ha : a.testBit i <;> cases hb : b.testBit i <;> simp [ha, hb]
theorem join_comm (a b : NL) : a.join b = b.join a := by simp only [NL.join, NL.mk.injEq]; exact ⟨Nat.max_comm _ _, Nat.or_comm _ _, Nat.min_comm _ _, Nat.and_comm _ _⟩
theorem meet_comm (a b : NL) : a.meet b = b.meet a := by simp only [NL.meet, NL.mk.injEq]; exact ⟨Nat.min_comm _ _, Nat.and_comm _ _, Nat.max_comm _ _, Nat.or_comm _ _⟩
theorem join_assoc (a b c : NL) : (a.join b).join c = a.join (b.join c) := by simp only [NL.join, NL.mk.injEq]; exact ⟨Nat.max_assoc _ _ _, Nat.or_assoc _ _ _, Nat.min_assoc _ _ _, Nat.and_assoc _ _ _⟩
theorem meet_assoc (a b c : NL) : (a.meet b).meet c = a.meet (b.meet c) := by simp only [NL.meet, NL.mk.injEq]; exact ⟨Nat.min_assoc _ _ _, Nat.and_assoc _ _ _, Nat.max_assoc _ _ _, Nat.or_assoc _ _ _⟩
theorem join_self (a : NL) : a.join a = a := by cases a; simp [NL.join]
theorem meet_self (a : NL) : a.meet a = a := by cases a; simp [NL.meet]
theorem over_refl (a : NL) : a.over a := join_self a
theorem over_antisymm {a b : NL} (h : a.over b) (k : b.over a) : a = b := by rw [← h, join_comm]; exact k
theorem over_trans {a b c : NL} (h : a.over b) (k : b.over c) : a.over c := by
  unfold NL.over at *; rw [← h, join_assoc, k]
theorem and_255 {a : Nat} (h : a < 256) : a &&& 255 = a := by
  rw [show 255 = 2 ^ 8 - 1 from rfl, Nat.and_two_pow_sub_one_eq_mod]; exact Nat.mod_eq_of_lt h
theorem or_255 {a : Nat} (h : a < 256) : a ||| 255 = 255 := by
  rw [Nat.or_comm, (or_and 255 a)]; rw [Nat.and_comm]; exact and_255 h
theorem over_bot {a : NL} (h : a.ok) : a.over NL.bot := by
  obtain ⟨a1, a2, a3, a4⟩ := h
  refine over_iff.2 ⟨Nat.zero_le _, by simp [NL.bot], by simp only [NL.bot]; omega, and_255 a4⟩
theorem meet_bot {a : NL} (h : a.ok) : a.meet NL.bot = NL.bot := by
  obtain ⟨a1, a2, a3, a4⟩ := h
  cases a
  simp only [NL.meet, NL.bot, NL.mk.injEq] at *
  exact ⟨by omega, by simp, by omega, or_255 a4⟩
theorem join_meet (a b : NL) : a.join (a.meet b) = a := by
  cases a; cases b
  simp only [NL.join, NL.meet, NL.mk.injEq]
  refine ⟨by omega, ?_, by omega, ?_⟩ <;> apply Nat.eq_of_testBit_eq <;> intro i <;> simp <;> intro h <;> simp [h]
theorem meet_join (a b : NL) : a.meet (a.join b) = a := by
  cases a; cases b
  simp only [NL.join, NL.meet, NL.mk.injEq]
  refine ⟨by omega, ?_, by omega, ?_⟩ <;> apply Nat.eq_of_testBit_eq <;> intro i <;> simp <;> intro h <;> simp [h]
theorem over_meet {a b : NL} : a.over b ↔ a.meet b = b := by
  cases a; cases b
  simp only [NL.over, NL.join, NL.meet, NL.mk.injEq]
  rw [or_and]
  have := or_and
  constructor
  · rintro ⟨h1, h2, h3, h4⟩; exact ⟨by omega, h2, by omega, by rw [Nat.or_comm, or_and, Nat.and_comm]; exact h4⟩
  · rintro ⟨h1, h2, h3, h4⟩; exact ⟨by omega, h2, by omega, by rw [Nat.or_comm, or_and, Nat.and_comm] at h4; exact h4⟩
/-- What the program's Over tells. -/
def ov (a b : Lab) : Bool := labEq (joinL a b) a
theorem ov_iff {a b : NL} (ha : a.ok) (hb : b.ok) : ov a.lab b.lab = true ↔ a.over b := by
  unfold ov; rw [labEq_iff, join_lab ha hb, lab_inj]; rfl
/-- The document's Over of four numbers. -/
def rov (a b : Lab) : Bool := decide (a.s ≥ b.s) && (bits .and .i64 a.c b.c == b.c) && decide (a.i ≤ b.i) && (bits .and .i64 a.k b.k == a.k)
set_option maxHeartbeats 1000000 in
theorem rlover_any (a b : Lab) (w : World) :
    Calls Try.prog 19 #[a.v, b.v] w fun e w' => e = .returned (.bool (rov a b)) ∧ Below w.heap.size w w' := by
  cases h0 : decide (a.s ≥ b.s)
  · have e : rov a b = false := by simp only [rov, h0]; simp
    rw [e]
    go_enter Try.func19, Try.ntmps19
    go_wp2
    go_ret
    exact ⟨rfl, below2 _ _ _⟩
  cases h1 : (bits .and .i64 a.c b.c == b.c)
  · have e : rov a b = false := by simp only [rov, h0, h1]; simp
    rw [e]
    go_enter Try.func19, Try.ntmps19
    go_wp2
    go_ret
    exact ⟨rfl, below2 _ _ _⟩
  cases h2 : decide (a.i ≤ b.i)
  · have e : rov a b = false := by simp only [rov, h0, h1, h2]; simp
    rw [e]
    go_enter Try.func19, Try.ntmps19
    go_wp2
    go_ret
    exact ⟨rfl, below2 _ _ _⟩
  have e : rov a b = (bits .and .i64 a.k b.k == a.k) := by simp only [rov, h0, h1, h2]; simp
  rw [e]
  go_enter Try.func19, Try.ntmps19
  go_wp2
  go_ret
  exact ⟨rfl, below2 _ _ _⟩
def b8 (l : Lab) : List Bool := [decide (l.s < 0), decide (l.s > 3), decide (l.i < 0), decide (l.i > 3), decide (l.c < 0), decide (l.c > 255), decide (l.k < 0), decide (l.k > 255)]
theorem chk_b8 (l : Lab) : chkL l = if (b8 l).any id = true then 1 else 0 := by
  unfold chkL okL inB b8
  simp only [List.any_cons, List.any_nil, id, Bool.or_eq_true, Bool.or_false, decide_eq_true_eq, Bool.and_eq_true]
  split <;> split <;> omega
set_option maxHeartbeats 4000000 in
theorem rlcheck_any (l : Lab) (w : World) :
    Calls Try.prog 29 #[l.v] w fun e w' => e = .returned (.int .i64 (chkL l)) ∧ Below w.heap.size w w' := by
  rw [chk_b8]
  unfold b8
  cases h0 : decide (l.s < 0)
  case true =>
    simp only [h0, List.any_cons, List.any_nil, id, Bool.or_true, Bool.true_or, Bool.or_false, Bool.false_or, if_true]
    go_enter Try.func29, Try.ntmps29
    go_wp2
    go_ret
    exact ⟨rfl, alloc_below _ _⟩
  cases h1 : decide (l.s > 3)
  case true =>
    simp only [h0, h1, List.any_cons, List.any_nil, id, Bool.or_true, Bool.true_or, Bool.or_false, Bool.false_or, if_true]
    go_enter Try.func29, Try.ntmps29
    go_wp2
    go_ret
    exact ⟨rfl, alloc_below _ _⟩
  cases h2 : decide (l.i < 0)
  case true =>
    simp only [h0, h1, h2, List.any_cons, List.any_nil, id, Bool.or_true, Bool.true_or, Bool.or_false, Bool.false_or, if_true]
    go_enter Try.func29, Try.ntmps29
    go_wp2
    go_ret
    exact ⟨rfl, alloc_below _ _⟩
  cases h3 : decide (l.i > 3)
  case true =>
    simp only [h0, h1, h2, h3, List.any_cons, List.any_nil, id, Bool.or_true, Bool.true_or, Bool.or_false, Bool.false_or, if_true]
    go_enter Try.func29, Try.ntmps29
    go_wp2
    go_ret
    exact ⟨rfl, alloc_below _ _⟩
  cases h4 : decide (l.c < 0)
  case true =>
    simp only [h0, h1, h2, h3, h4, List.any_cons, List.any_nil, id, Bool.or_true, Bool.true_or, Bool.or_false, Bool.false_or, if_true]
    go_enter Try.func29, Try.ntmps29
    go_wp2
    go_ret
    exact ⟨rfl, alloc_below _ _⟩
  cases h5 : decide (l.c > 255)
  case true =>
    simp only [h0, h1, h2, h3, h4, h5, List.any_cons, List.any_nil, id, Bool.or_true, Bool.true_or, Bool.or_false, Bool.false_or, if_true]
    go_enter Try.func29, Try.ntmps29
    go_wp2
    go_ret
    exact ⟨rfl, alloc_below _ _⟩
  cases h6 : decide (l.k < 0)
  case true =>
    simp only [h0, h1, h2, h3, h4, h5, h6, List.any_cons, List.any_nil, id, Bool.or_true, Bool.true_or, Bool.or_false, Bool.false_or, if_true]
    go_enter Try.func29, Try.ntmps29
    go_wp2
    go_ret
    exact ⟨rfl, alloc_below _ _⟩
  cases h7 : decide (l.k > 255)
  case true =>
    simp only [h0, h1, h2, h3, h4, h5, h6, h7, List.any_cons, List.any_nil, id, Bool.or_true, Bool.true_or, Bool.or_false, Bool.false_or, if_true]
    go_enter Try.func29, Try.ntmps29
    go_wp2
    go_ret
    exact ⟨rfl, alloc_below _ _⟩
  simp only [h0, h1, h2, h3, h4, h5, h6, h7, List.any_cons, List.any_nil, id, Bool.or_false, Bool.false_or, Bool.false_eq_true, if_false]
  go_enter Try.func29, Try.ntmps29
  go_wp2
  go_ret
  exact ⟨rfl, alloc_below _ _⟩
/-- The document's Over is the program's. -/
theorem rov_ov {A B : NL} (okA : A.ok) (okB : B.ok) : rov A.lab B.lab = ov A.lab B.lab := by
  rw [Bool.eq_iff_iff, ov_iff okA okB, over_iff, or_and]
  unfold rov NL.lab
  simp only [band _ _ okA.2.1 okB.2.1, band _ _ okA.2.2.2 okB.2.2.2, Bool.and_eq_true, decide_eq_true_eq, beq_iff_eq]
  omega
end Go.Proofs.Ytjpabjmicaopcaa
