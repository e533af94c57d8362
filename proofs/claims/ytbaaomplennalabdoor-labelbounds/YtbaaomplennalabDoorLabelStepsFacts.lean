/-
  ONE STEP OF A LABEL: a level or a category more of secrecy, or less of integrity.
-/
import Derived.Test.YtbaaomplennalabDoorLabelMore
namespace Go.Proofs.YtbaaomplennalabDoor
open Go.RowKit

theorem shl_one (n : Nat) (h : n < 8) : IntKind.i64.wrap (1 * 2 ^ ((n : Int)).toNat) = ((2 ^ n : Nat) : Int) := by
  have : n = 0 ∨ n = 1 ∨ n = 2 ∨ n = 3 ∨ n = 4 ∨ n = 5 ∨ n = 6 ∨ n = 7 := by omega
  rcases this with rfl | rfl | rfl | rfl | rfl | rfl | rfl | rfl <;> decide
theorem bandnot (a : Nat) (b : Int) (ha : a < 256) : ∃ m : Nat, bits .andNot .i64 (a : Int) b = ((a &&& m : Nat) : Int) := by
  refine ⟨(~~~(BitVec.ofInt 64 b)).toNat, ?_⟩
  have hx : a &&& (~~~(BitVec.ofInt 64 b)).toNat ≤ a := Nat.and_le_left
  show IntKind.i64.wrap ((BitVec.ofInt 64 (a : Int) &&& ~~~(BitVec.ofInt 64 b)).toNat : Int) = _
  rw [BitVec.toNat_and, ofInt_nat a (by omega), wrap_small _ (by omega)]
/-- A label that is over another one, and not the same. -/
theorem step_facts {A B : NL} (okA : A.ok) (okB : B.ok) (h : B.over A) (hne : B ≠ A) :
    ov B.lab A.lab = true ∧ ov A.lab B.lab = false ∧ labEq (joinL A.lab B.lab) B.lab = true ∧ labEq (meetL A.lab B.lab) A.lab = true := by
  refine ⟨(ov_iff okB okA).2 h, ?_, ?_, ?_⟩
  · rw [← Bool.not_eq_true, ov_iff okA okB]
    exact fun k => hne (over_antisymm h k)
  · rw [labEq_iff, join_lab okA okB, join_comm]
    exact congrArg NL.lab h
  · rw [labEq_iff, meet_lab okA okB, meet_comm]
    exact congrArg NL.lab (over_meet.1 h)
theorem or_over (a b : Nat) : (a ||| b) ||| a = a ||| b := by
  apply Nat.eq_of_testBit_eq; intro i; cases ha : a.testBit i <;> cases hb : b.testBit i <;> simp [ha, hb]
theorem and_over (a b : Nat) : (a &&& b) &&& a = a &&& b := by
  apply Nat.eq_of_testBit_eq; intro i; cases ha : a.testBit i <;> cases hb : b.testBit i <;> simp [ha, hb]
/-- The label behind a step. -/
def stepL (l : Lab) (q : Int) (b : Int) : Lab :=
  if q = 0 then { l with s := l.s + 1 } else if q = 1 then { l with c := bits .or .i64 l.c b } else if q = 2 then { l with i := l.i - 1 } else { l with k := bits .andNot .i64 l.k b }
theorem ok_iff (l : Lab) : okL l = true ↔ GL l := by
  simp only [okL, inB, Bool.and_eq_true, decide_eq_true_eq]
  constructor
  · rintro ⟨⟨⟨⟨a, b⟩, c, d⟩, e, f⟩, g, i⟩; exact ⟨a, b, c, d, e, f, g, i⟩
  · rintro ⟨a, b, c, d, e, f, g, i⟩; exact ⟨⟨⟨⟨a, b⟩, c, d⟩, e, f⟩, g, i⟩
theorem step_over {A : NL} (okA : A.ok) (q : Int) (n : Nat) (hn : n < 8) (hg : okL (stepL A.lab q ((2 ^ n : Nat) : Int)) = true) : ∃ B : NL, B.ok ∧ stepL A.lab q ((2 ^ n : Nat) : Int) = B.lab ∧ B.over A := by
  have h2 : 2 ^ n < 256 := by
    have : 2 ^ n ≤ 2 ^ 7 := Nat.pow_le_pow_right (by decide) (by omega)
    omega
  obtain ⟨B, e, okB⟩ := ((ok_iff _).1 hg).nl
  refine ⟨B, okB, e, ?_⟩
  rw [over_iff]
  obtain ⟨a1, a2, a3, a4⟩ := okA
  unfold stepL at e
  split at e
  · simp only [NL.lab, Lab.mk.injEq] at e
    obtain ⟨e1, e2, e3, e4⟩ := e
    have h1 : B.s = A.s + 1 := by omega
    have h3 : B.c = A.c := by omega
    have h4 : B.i = A.i := by omega
    have h5 : B.k = A.k := by omega
    rw [h1, h3, h4, h5]
    exact ⟨by omega, by simp, by omega, by simp⟩
  · split at e
    · simp only [NL.lab, Lab.mk.injEq, bor _ _ a2 h2] at e
      obtain ⟨e1, e2, e3, e4⟩ := e
      have h1 : B.s = A.s := by omega
      have h3 : B.c = A.c ||| 2 ^ n := by omega
      have h4 : B.i = A.i := by omega
      have h5 : B.k = A.k := by omega
      rw [h1, h3, h4, h5]
      exact ⟨by omega, or_over _ _, by omega, by simp⟩
    · split at e
      · simp only [NL.lab, Lab.mk.injEq] at e
        obtain ⟨e1, e2, e3, e4⟩ := e
        have h1 : B.s = A.s := by omega
        have h3 : B.c = A.c := by omega
        have h4 : B.i + 1 = A.i := by omega
        have h5 : B.k = A.k := by omega
        rw [h1, h3, h5]
        exact ⟨by omega, by simp, by omega, by simp⟩
      · obtain ⟨m, hm⟩ := bandnot A.k ((2 ^ n : Nat) : Int) a4
        simp only [NL.lab, Lab.mk.injEq] at e
        rw [hm] at e
        obtain ⟨e1, e2, e3, e4⟩ := e
        have h1 : B.s = A.s := by omega
        have h3 : B.c = A.c := by omega
        have h4 : B.i = A.i := by omega
        have h5 : B.k = A.k &&& m := by omega
        rw [h1, h3, h4, h5]
        exact ⟨by omega, by simp, by omega, and_over _ _⟩
theorem wrap_pow (n : Nat) (h : n < 8) : wrap64 (2 ^ n) = ((2 ^ n : Nat) : Int) := by
  have : n = 0 ∨ n = 1 ∨ n = 2 ∨ n = 3 ∨ n = 4 ∨ n = 5 ∨ n = 6 ∨ n = 7 := by omega
  rcases this with rfl | rfl | rfl | rfl | rfl | rfl | rfl | rfl <;> decide +kernel
theorem step_all {A : NL} (okA : A.ok) (q : Int) (n : Nat) (hn : n < 8) {B : Lab} (hB : B = stepL A.lab q (wrap64 (2 ^ n))) (hg : okL B = true) (he : labEq B A.lab = false) :
    ov B A.lab = true ∧ ov A.lab B = false ∧ labEq (joinL A.lab B) B = true ∧ labEq (meetL A.lab B) A.lab = true := by
  rw [wrap_pow n hn] at hB
  subst hB
  obtain ⟨B, okB, e, ho⟩ := step_over okA q n hn hg
  rw [e] at he ⊢
  exact step_facts okA okB ho (fun k => by rw [k, (labEq_iff _ _).2 rfl] at he; cases he)
theorem keepB2 {w W W' : World} {g gb : Nat} {a b : Lab} (hb : Below W.heap.size W W') (h : Below g w W ∧ g ≤ W.heap.size ∧ Boxed W g a ∧ Boxed W gb b) : Below g w W' ∧ g ≤ W'.heap.size ∧ Boxed W' g a ∧ Boxed W' gb b :=
  ⟨h.1.trans (hb.mono h.2.1), Nat.le_trans h.2.1 hb.size, h.2.2.1.keep hb, h.2.2.2.keep hb⟩
theorem set_other {W : World} {g gb i : Nat} {l : Lab} (v : Value) (h : Boxed W g l) (hne : gb ≠ g) : Boxed (W.setCell ⟨gb, i, none⟩ v) g l := by
  obtain ⟨a, b, c, d⟩ := h
  refine ⟨?_, ?_, ?_, ?_⟩ <;> simp [World.cell?_setCell_far, *]
theorem set0 {W : World} {g : Nat} {l : Lab} (x : Int) (h : Boxed W g l) : Boxed (W.setCell ⟨g, 0, none⟩ (.int .i64 x)) g ⟨x, l.c, l.i, l.k⟩ := by
  obtain ⟨a, b, c, d⟩ := h
  refine ⟨?_, ?_, ?_, ?_⟩ <;> simp [World.cell?_setCell_other, World.cell?_setCell_same', *]
theorem set1 {W : World} {g : Nat} {l : Lab} (x : Int) (h : Boxed W g l) : Boxed (W.setCell ⟨g, 1, none⟩ (.int .i64 x)) g ⟨l.s, x, l.i, l.k⟩ := by
  obtain ⟨a, b, c, d⟩ := h
  refine ⟨?_, ?_, ?_, ?_⟩ <;> simp [World.cell?_setCell_other, World.cell?_setCell_same', *]
theorem set2 {W : World} {g : Nat} {l : Lab} (x : Int) (h : Boxed W g l) : Boxed (W.setCell ⟨g, 2, none⟩ (.int .i64 x)) g ⟨l.s, l.c, x, l.k⟩ := by
  obtain ⟨a, b, c, d⟩ := h
  refine ⟨?_, ?_, ?_, ?_⟩ <;> simp [World.cell?_setCell_other, World.cell?_setCell_same', *]
theorem set3 {W : World} {g : Nat} {l : Lab} (x : Int) (h : Boxed W g l) : Boxed (W.setCell ⟨g, 3, none⟩ (.int .i64 x)) g ⟨l.s, l.c, l.i, x⟩ := by
  obtain ⟨a, b, c, d⟩ := h
  refine ⟨?_, ?_, ?_, ?_⟩ <;> simp [World.cell?_setCell_other, World.cell?_setCell_same', *]
end Go.Proofs.YtbaaomplennalabDoor
