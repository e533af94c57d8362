/-
  A LABEL's TEXT IS READ AS THAT LABEL; what is read has that text.
-/
import Derived.Test.YtbaaomplennalaaDoorLabelParse
namespace Go.Proofs.YtbaaomplennalaaDoor
open Go.RowKit

theorem index_skip (X Y : List UInt8) (h : (46 : UInt8) ∉ X) : Lib.index (X ++ 46 :: Y) [46] = (X.length : Int) := by
  induction X with
  | nil => simp [Lib.index, List.isPrefixOf]
  | cons b l ih =>
    simp only [List.mem_cons, not_or] at h
    have e := ih h.2
    rw [List.cons_append, Lib.index]
    have hb : ([46] : List UInt8).isPrefixOf (b :: (l ++ 46 :: Y)) = false := by
      simp [List.isPrefixOf]; exact h.1
    rw [hb, e]
    simp
theorem index_none (X : List UInt8) (h : (46 : UInt8) ∉ X) : Lib.index X [46] = -1 := by
  induction X with
  | nil => simp [Lib.index]
  | cons b l ih =>
    simp only [List.mem_cons, not_or] at h
    have e := ih h.2
    rw [Lib.index]
    have hb : ([46] : List UInt8).isPrefixOf (b :: l) = false := by
      simp [List.isPrefixOf]; exact h.1
    rw [hb, e]
    simp
theorem split_skip (k : Nat) (X Y : List UInt8) (h : (46 : UInt8) ∉ X) : Lib.splitK [46] 0 (k + 1) (X ++ 46 :: Y) = X :: Lib.splitK [46] 0 k Y := by
  rw [Lib.splitK, index_skip X Y h, if_neg (by simp)]
  simp
theorem split_none (k : Nat) (X : List UInt8) (h : (46 : UInt8) ∉ X) : Lib.splitK [46] 0 k X = [X] := by
  cases k with
  | zero => rfl
  | succ k => rw [Lib.splitK, index_none X h, if_pos (by simp)]
theorem digits_dot : ∀ n : Fin 256, (46 : UInt8) ∉ Lib.itoa ((n : Nat) : Int) := by decide +kernel
theorem digits_num : ∀ n : Fin 256, numB ⟨(Lib.itoa ((n : Nat) : Int)).toArray⟩ = some ((n : Nat) : Int) := by decide +kernel
theorem digits_pos : ∀ n : Fin 256, 1 ≤ (Lib.itoa ((n : Nat) : Int)).length := by decide +kernel
theorem nat_dot {n : Int} (h0 : 0 ≤ n) (h1 : n ≤ 255) : (46 : UInt8) ∉ Lib.itoa n := by
  have := digits_dot ⟨n.toNat, by omega⟩
  simpa [Int.toNat_of_nonneg h0] using this
theorem nat_num {n : Int} (h0 : 0 ≤ n) (h1 : n ≤ 255) : numB ⟨(Lib.itoa n).toArray⟩ = some n := by
  have := digits_num ⟨n.toNat, by omega⟩
  simpa [Int.toNat_of_nonneg h0] using this
theorem nat_pos {n : Int} (h0 : 0 ≤ n) (h1 : n ≤ 255) : 1 ≤ (Lib.itoa n).length := by
  have := digits_pos ⟨n.toNat, by omega⟩
  simpa [Int.toNat_of_nonneg h0] using this
theorem bytes_inj {x y : List ByteArray} (h : x.map (·.data.toList) = y.map (·.data.toList)) : x = y := by
  induction x generalizing y with
  | nil => cases y with
    | nil => rfl
    | cons b l => simp at h
  | cons a l ih => cases y with
    | nil => simp at h
    | cons b m =>
      simp only [List.map_cons, List.cons.injEq] at h
      rw [ih h.2]
      congr 1
      cases a; cases b
      simp only [ByteArray.mk.injEq]
      exact Array.toList_inj.1 h.1
theorem text_shape (l : Lab) : textL l = Lib.itoa l.s ++ 46 :: (Lib.itoa l.c ++ 46 :: (Lib.itoa l.i ++ 46 :: Lib.itoa l.k)) := by
  simp [textL]
theorem parts_text {l : Lab} (h : GL l) : partsB ⟨(textL l).toArray⟩ = [⟨(Lib.itoa l.s).toArray⟩, ⟨(Lib.itoa l.c).toArray⟩, ⟨(Lib.itoa l.i).toArray⟩, ⟨(Lib.itoa l.k).toArray⟩] := by
  obtain ⟨a, b, c, d, e, f, g, i⟩ := h
  apply bytes_inj
  unfold partsB
  rw [Lib.splitB_data]
  have hk : min 5 ((⟨(textL l).toArray⟩ : ByteArray).size + 1) - 1 = 4 := by
    have h1 := nat_pos a (by omega)
    have h2 := nat_pos c d
    have h3 := nat_pos e (by omega)
    have : (⟨(textL l).toArray⟩ : ByteArray).size = (textL l).length := by show (textL l).toArray.size = _; simp
    rw [this, text_shape]
    simp
    omega
  rw [hk]
  show Lib.splitK [46] 0 4 (textL l) = _
  rw [text_shape, split_skip _ _ _ (nat_dot a (by omega)), split_skip _ _ _ (nat_dot c d), split_skip _ _ _ (nat_dot e (by omega)), split_none _ _ (nat_dot g i)]
  rfl
theorem parse_text {l : Lab} (h : GL l) : parseL ⟨(textL l).toArray⟩ = some l := by
  have hp := parts_text h
  obtain ⟨a, b, c, d, e, f, g, i⟩ := h
  have ho : okL l = true := by simp only [okL, inB, Bool.and_eq_true, decide_eq_true_eq]; exact ⟨⟨⟨⟨a, b⟩, c, d⟩, e, f⟩, g, i⟩
  unfold parseL
  rw [hp]
  simp only [readL, nat_num a (by omega), nat_num c d, nat_num e (by omega), nat_num g i]
  rw [if_pos ⟨ho, trivial⟩]
theorem parse_back {s : ByteArray} {l : Lab} (h : parseL s = some l) : GL l ∧ (⟨(textL l).toArray⟩ : ByteArray) = s := by
  unfold parseL at h
  split at h
  · split at h
    · rename_i hc
      cases h
      exact ⟨ok_GL _ hc.1, hc.2⟩
    · cases h
  · cases h
end Go.Proofs.YtbaaomplennalaaDoor
