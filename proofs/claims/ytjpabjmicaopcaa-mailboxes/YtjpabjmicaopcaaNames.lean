/-
  NAMES, FOR THE STAGES BEHIND THE SEVENTH: package path's Name and the document's own (donjonref7).
-/
import Derived.Test.YtjpabjmicaopcaaCommon
import Derived.Lib.Strings
import Derived.Lib.Bytealg
import Derived.Laws.RangeAny
namespace Go.Proofs.Ytjpabjmicaopcaa
open Go.RowKit
set_option maxRecDepth 8000
set_option linter.unusedSimpArgs false
set_option linter.unusedVariables false

def eqs (a b : ByteArray) : Bool := a.toList == b.toList
theorem toL (a : ByteArray) : a.toList = a.data.toList := Lib.toList_data a
theorem eqs_iff {a b : ByteArray} : eqs a b = true ↔ a = b := by
  unfold eqs
  rw [toL, toL]
  simp only [beq_iff_eq]
  exact ⟨fun h => by cases a; cases b; simpa using h, fun h => by rw [h]⟩
theorem eqs_self (a : ByteArray) : eqs a a = true := eqs_iff.2 rfl
theorem eqs_ne {a b : ByteArray} (h : a ≠ b) : eqs a b = false := by
  cases he : eqs a b
  · rfl
  · exact absurd (eqs_iff.1 he) h
def okB (c : UInt8) : Bool := (decide (97 ≤ c.toNat) && decide (c.toNat ≤ 122)) || (decide (48 ≤ c.toNat) && decide (c.toNat ≤ 57))
def name (u : ByteArray) : Bool := decide (1 ≤ u.size) && (decide (u.size ≤ 12) && u.data.toList.all okB)
theorem all_drop {u : ByteArray} {i : Nat} (h : i < u.size) : (u.data.toList.drop i).all okB = (okB (u[i]'h) && (u.data.toList.drop (i + 1)).all okB) := by
  have hi : i < u.data.toList.length := by rw [Array.length_toList]; exact h
  rw [List.drop_eq_getElem_cons hi, List.all_cons]
  rfl
set_option maxHeartbeats 2000000 in
theorem rname_any (u : ByteArray) (hu : u.size ≤ 9223372036854775807) (w : World) :
    Calls Try.prog 28 #[.string u] w fun e w' => e = .returned (.bool (name u)) ∧ w' = w := by
  obtain ⟨b, hb⟩ : ∃ b, name u = b := ⟨_, rfl⟩
  rw [hb]
  have hb0 : Aside (b = (decide (1 ≤ u.size) && (decide (u.size ≤ 12) && (u.data.toList.drop 0).all okB))) := by rw [Aside, ← hb]; rfl
  clear hb
  go_enter Try.func28, Try.ntmps28
  go_wp2
  go_loopw [3] (fun t wr => ∃ i : Nat, i ≤ u.size ∧ t = .int .i64 (i : Int) ∧ wr = w ∧ Aside (b = (decide (1 ≤ u.size) && (decide (u.size ≤ 12) && (u.data.toList.drop i).all okB)))) (fun t _ => u.size - (Go.RowKit.intOf t).toNat)
  case atStart => exact ⟨0, by omega, rfl, rfl, hb0⟩
  case round =>
    obtain ⟨i, hi, rfl, rfl, hall⟩ := hrel
    by_cases hlt : i < u.size
    · have hd := all_drop hlt
      obtain ⟨k, hk⟩ : ∃ k : Nat, (u[i]'hlt).toNat = k := ⟨_, rfl⟩
      rw [okB, hk] at hd
      by_cases hok : (97 ≤ k ∧ k ≤ 122) ∨ (48 ≤ k ∧ k ≤ 57)
      · have hn : Aside (b = (decide (1 ≤ u.size) && (decide (u.size ≤ 12) && (u.data.toList.drop (i + 1)).all okB))) := by
          refine hall.out.trans ?_
          rw [hd]
          rcases hok with ⟨h, h'⟩ | ⟨h, h'⟩ <;> simp [h, h']
        clear hall hd
        rcases hok with ⟨h3, h4⟩ | ⟨h3, h4⟩
        · go_wp2
          exact ⟨⟨i + 1, by omega, by simp, trivial, hn⟩, by simp [Go.RowKit.intOf]; omega⟩
        · go_wp2
          exact ⟨⟨i + 1, by omega, by simp, trivial, hn⟩, by simp [Go.RowKit.intOf]; omega⟩
      · obtain rfl : b = false := by
          refine hall.out.trans ?_
          rw [hd]
          rw [Bool.and_eq_false_iff]
          right
          rw [Bool.and_eq_false_iff]
          right
          rw [Bool.and_eq_false_iff]
          left
          simp only [Bool.or_eq_false_iff, Bool.and_eq_false_iff, decide_eq_false_iff_not]
          omega
        clear hall hd hb0
        by_cases h3 : k < 97
        · by_cases h4 : k < 48
          · go_wp2
            go_ret
            exact ⟨rfl, rfl⟩
          · have h5 : 57 < k := by omega
            go_wp2
            go_ret
            exact ⟨rfl, rfl⟩
        · have h5 : 122 < k := by omega
          go_wp2
          go_ret
          exact ⟨rfl, rfl⟩
    · have he : Aside (b = (decide (1 ≤ u.size) && decide (u.size ≤ 12))) := by
        refine hall.out.trans ?_
        rw [List.drop_eq_nil_of_le (by rw [Array.length_toList]; show u.size ≤ i; omega)]
        simp
      clear hall hb0
      by_cases h1 : 1 ≤ u.size
      · by_cases h2 : u.size ≤ 12
        · obtain rfl : b = true := by rw [he.out]; simp [h1, h2]
          go_wp2
          go_ret
          exact ⟨by simp; omega, rfl⟩
        · obtain rfl : b = false := by rw [he.out]; simp [h2]
          go_wp2
          go_ret
          exact ⟨by simp; omega, rfl⟩
      · obtain rfl : b = false := by rw [he.out]; simp [h1]
        go_wp2
        go_ret
        exact ⟨by simp; try omega, rfl⟩
theorem below_iter (w : World) (s : ByteArray) (pos : Nat) : Below w.heap.size w (w.iter s pos) := (Below.refl _ _).alloc (Nat.le_refl _) _
set_option maxHeartbeats 2000000 in
theorem name_any (u : ByteArray) (hu : u.size ≤ 9223372036854775807) (w : World) :
    Calls Try.prog 36 #[.string u] w fun e w' => e = .returned (.bool (name u)) ∧ Below w.heap.size w w' := by
  obtain ⟨b, hb⟩ : ∃ b, name u = b := ⟨_, rfl⟩
  rw [hb]
  by_cases h1 : u.size < 1
  · obtain rfl : b = false := by rw [← hb, name]; simp; omega
    clear hb
    as_aux_lemma =>
      go_enter Try.func36, Try.ntmps36
      go_wp2
      go_ret
      exact ⟨rfl, Below.refl _ _⟩
  by_cases h12 : 12 < u.size
  · obtain rfl : b = false := by rw [← hb, name]; simp; omega
    clear hb
    as_aux_lemma =>
      go_enter Try.func36, Try.ntmps36
      go_wp2
      go_ret
      exact ⟨rfl, Below.refl _ _⟩
  have hb0 : Aside (b = (u.data.toList.drop 0).all okB) := by
    rw [Aside, ← hb, name, List.drop_zero]
    simp [show 1 ≤ u.size by omega, show u.size ≤ 12 by omega]
  clear hb
  go_enter Try.func36, Try.ntmps36
  go_wp2
  go_loopw [2] (fun t w' => ∃ pos : Nat, pos ≤ u.size ∧ w' = w.iter u pos ∧ t = .bool false ∧ Aside (b = (u.data.toList.drop pos).all okB)) (fun _ w' => u.size - w'.iterPos w.heap.size)
  case atStart => exact ⟨0, by omega, rfl, rfl, hb0⟩
  case round =>
    obtain ⟨pos, hpos, rfl, rfl, hall⟩ := hrel
    have hB := below_iter w u
    by_cases hlt : pos < u.size
    · have hd := all_drop hlt
      by_cases hasc : (u[pos]'hlt).toNat < 128
      · have hnx : ∀ ty, (Instr.next (.pointer (some ⟨w.heap.size, 0, none⟩)) true ty).run Try.prog (w.iter u pos) = _ := fun ty => run_next_ascii w u pos ty hlt hasc
        obtain ⟨k, hk⟩ : ∃ k : Nat, (u[pos]'hlt).toNat = k := ⟨_, rfl⟩
        rw [okB, hk] at hd
        simp only [hk] at hnx
        clear hasc
        by_cases hok : (97 ≤ k ∧ k ≤ 122) ∨ (48 ≤ k ∧ k ≤ 57)
        · have hn : Aside (b = (u.data.toList.drop (pos + 1)).all okB) := by
            refine hall.out.trans ?_
            rw [hd]
            rcases hok with ⟨h, h'⟩ | ⟨h, h'⟩ <;> simp [h, h']
          clear hall hd hk
          rcases hok with ⟨h3, h4⟩ | ⟨h3, h4⟩
          · as_aux_lemma =>
              go_wp2
              go_roundw
              case rel => exact ⟨pos + 1, by omega, rfl, rfl, hn⟩
              case measure => simp; omega
          · as_aux_lemma =>
              go_wp2
              go_roundw
              case rel => exact ⟨pos + 1, by omega, rfl, rfl, hn⟩
              case measure => simp; omega
        · obtain rfl : b = false := by
            refine hall.out.trans ?_
            rw [hd, Bool.and_eq_false_iff]
            left
            simp only [Bool.or_eq_false_iff, Bool.and_eq_false_iff, decide_eq_false_iff_not]
            omega
          clear hall hd hb0 hk
          by_cases h3 : k < 97
          · by_cases h4 : k < 48
            · as_aux_lemma =>
                go_wp2
                go_ret
                exact ⟨rfl, hB _⟩
            · have h5 : 57 < k := by omega
              as_aux_lemma =>
                go_wp2
                go_ret
                exact ⟨rfl, hB _⟩
          · have h5 : 122 < k := by omega
            as_aux_lemma =>
              go_wp2
              go_ret
              exact ⟨rfl, hB _⟩
      · have hnx : ∀ ty, (Instr.next (.pointer (some ⟨w.heap.size, 0, none⟩)) true ty).run Try.prog (w.iter u pos) = _ := fun ty => run_next_any w u pos ty hlt
        have hhi := (decode_high u pos hlt (by omega)).1
        obtain ⟨k, hk⟩ : ∃ k : Nat, (Utf8.decode u pos).1 = k := ⟨_, rfl⟩
        obtain ⟨wd, hwd⟩ : ∃ k : Nat, (Utf8.decode u pos).2 = k := ⟨_, rfl⟩
        rw [hk] at hhi
        simp only [hk, hwd] at hnx
        obtain rfl : b = false := by
          refine hall.out.trans ?_
          rw [hd, Bool.and_eq_false_iff]
          left
          simp only [okB, Bool.or_eq_false_iff, Bool.and_eq_false_iff, decide_eq_false_iff_not]
          omega
        clear hall hd hb0 hk hwd hasc
        have h5 : 122 < k := by omega
        have h6 : ¬ k < 97 := by omega
        have h7 : ¬ k < 48 := by omega
        have h8 : 57 < k := by omega
        clear hhi
        as_aux_lemma =>
          go_wp2
          go_ret
          exact ⟨rfl, hB _⟩
    · have hnx : ∀ ty, (Instr.next (.pointer (some ⟨w.heap.size, 0, none⟩)) true ty).run Try.prog (w.iter u pos) = _ := fun ty => run_next_end w u pos ty hlt
      obtain rfl : b = true := by
        refine hall.out.trans ?_
        rw [List.drop_eq_nil_of_le (by rw [Array.length_toList]; show u.size ≤ pos; omega)]
        rfl
      clear hall hb0
      as_aux_lemma =>
        go_wp2
        go_ret
        exact ⟨rfl, hB _⟩
end Go.Proofs.Ytjpabjmicaopcaa
