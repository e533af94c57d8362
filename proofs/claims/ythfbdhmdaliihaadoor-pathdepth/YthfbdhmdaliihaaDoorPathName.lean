/-
  PACKAGE path: Name (a range over the text's runes), Join, and the last slash's functions, against the plain functions.
-/
import Derived.Test.YthfbdhmdaliihaaDoorPathMore
import Derived.Laws.RangeAny
namespace Go.Proofs.YthfbdhmdaliihaaDoor
open Go.RowKit
set_option linter.unusedSimpArgs false
set_option linter.unusedVariables false

theorem below_iter (w : World) (s : ByteArray) (pos : Nat) : Below w.heap.size w (w.iter s pos) := (Below.refl _ _).alloc (Nat.le_refl _) _
set_option maxHeartbeats 2000000 in
theorem name_any (u : ByteArray) (hu : u.size ≤ 9223372036854775807) (w : World) :
    Calls Tryd.prog 9 #[.string u] w fun e w' => e = .returned (.bool (name u)) ∧ Below w.heap.size w w' := by
  obtain ⟨b, hb⟩ : ∃ b, name u = b := ⟨_, rfl⟩
  rw [hb]
  by_cases h1 : u.size < 1
  · obtain rfl : b = false := by rw [← hb, name]; simp; omega
    clear hb
    as_aux_lemma =>
      go_enter Tryd.func9, Tryd.ntmps9
      go_wp2
      go_ret
      exact ⟨rfl, Below.refl _ _⟩
  by_cases h12 : 12 < u.size
  · obtain rfl : b = false := by rw [← hb, name]; simp; omega
    clear hb
    as_aux_lemma =>
      go_enter Tryd.func9, Tryd.ntmps9
      go_wp2
      go_ret
      exact ⟨rfl, Below.refl _ _⟩
  have hb0 : Aside (b = (u.data.toList.drop 0).all okB) := by
    rw [Aside, ← hb, name, List.drop_zero]
    simp [show 1 ≤ u.size by omega, show u.size ≤ 12 by omega]
  clear hb
  go_enter Tryd.func9, Tryd.ntmps9
  go_wp2
  go_loopw [2] (fun t w' => ∃ pos : Nat, pos ≤ u.size ∧ w' = w.iter u pos ∧ t = .bool false ∧ Aside (b = (u.data.toList.drop pos).all okB)) (fun _ w' => u.size - w'.iterPos w.heap.size)
  case atStart => exact ⟨0, by omega, rfl, rfl, hb0⟩
  case round =>
    obtain ⟨pos, hpos, rfl, rfl, hall⟩ := hrel
    have hB := below_iter w u
    by_cases hlt : pos < u.size
    · have hd := all_drop hlt
      by_cases hasc : (u[pos]'hlt).toNat < 128
      · have hnx : ∀ ty, (Instr.next (.pointer (some ⟨w.heap.size, 0, none⟩)) true ty).run Tryd.prog (w.iter u pos) = _ := fun ty => run_next_ascii w u pos ty hlt hasc
        obtain ⟨k, hk⟩ : ∃ k : Nat, (u[pos]'hlt).toNat = k := ⟨_, rfl⟩
        rw [okB, hk] at hd
        simp only [hk] at hnx
        clear hasc
        by_cases hok : (97 ≤ k ∧ k ≤ 122) ∨ (48 ≤ k ∧ k ≤ 57)
        · have hn : Aside (b = (u.data.toList.drop (pos + 1)).all okB) := by
            refine hall.out.trans ?_
            rw [hd]
            rcases hok with ⟨h, h'⟩ | ⟨h, h'⟩ <;> simp [h, h']
          clear hall hd hk
          rcases hok with ⟨h3, h4⟩ | ⟨h3, h4⟩
          · as_aux_lemma =>
              go_wp2
              go_roundw
              case rel => exact ⟨pos + 1, by omega, rfl, rfl, hn⟩
              case measure => simp; omega
          · as_aux_lemma =>
              go_wp2
              go_roundw
              case rel => exact ⟨pos + 1, by omega, rfl, rfl, hn⟩
              case measure => simp; omega
        · obtain rfl : b = false := by
            refine hall.out.trans ?_
            rw [hd, Bool.and_eq_false_iff]
            left
            simp only [Bool.or_eq_false_iff, Bool.and_eq_false_iff, decide_eq_false_iff_not]
            omega
          clear hall hd hb0 hk
          by_cases h3 : k < 97
          · by_cases h4 : k < 48
            · as_aux_lemma =>
                go_wp2
                go_ret
                exact ⟨rfl, hB _⟩
            · have h5 : 57 < k := by omega
              as_aux_lemma =>
                go_wp2
                go_ret
                exact ⟨rfl, hB _⟩
          · have h5 : 122 < k := by omega
            as_aux_lemma =>
              go_wp2
              go_ret
              exact ⟨rfl, hB _⟩
      · have hnx : ∀ ty, (Instr.next (.pointer (some ⟨w.heap.size, 0, none⟩)) true ty).run Tryd.prog (w.iter u pos) = _ := fun ty => run_next_any w u pos ty hlt
        have hhi := (decode_high u pos hlt (by omega)).1
        obtain ⟨k, hk⟩ : ∃ k : Nat, (Utf8.decode u pos).1 = k := ⟨_, rfl⟩
        obtain ⟨wd, hwd⟩ : ∃ k : Nat, (Utf8.decode u pos).2 = k := ⟨_, rfl⟩
        rw [hk] at hhi
        simp only [hk, hwd] at hnx
        obtain rfl : b = false := by
          refine hall.out.trans ?_
          rw [hd, Bool.and_eq_false_iff]
          left
          simp only [okB, Bool.or_eq_false_iff, Bool.and_eq_false_iff, decide_eq_false_iff_not]
          omega
        clear hall hd hb0 hk hwd hasc
        have h5 : 122 < k := by omega
        have h6 : ¬ k < 97 := by omega
        have h7 : ¬ k < 48 := by omega
        have h8 : 57 < k := by omega
        clear hhi
        as_aux_lemma =>
          go_wp2
          go_ret
          exact ⟨rfl, hB _⟩
    · have hnx : ∀ ty, (Instr.next (.pointer (some ⟨w.heap.size, 0, none⟩)) true ty).run Tryd.prog (w.iter u pos) = _ := fun ty => run_next_end w u pos ty hlt
      obtain rfl : b = true := by
        refine hall.out.trans ?_
        rw [List.drop_eq_nil_of_le (by rw [Array.length_toList]; show u.size ≤ pos; omega)]
        rfl
      clear hall hb0
      as_aux_lemma =>
        go_wp2
        go_ret
        exact ⟨rfl, hB _⟩

set_option maxHeartbeats 1000000 in
theorem join_any (p n : ByteArray) (hp : p.size ≤ 1000000) (hn : n.size ≤ 1000000) (w : World) :
    Calls Tryd.prog 19 #[.string p, .string n] w fun e w' => e = .returned (.string (joinOf p n)) ∧ w' = w := by
  have b1 : ¬ 9223372036854775807 < 1 + n.size := by omega
  have b2 : ¬ 9223372036854775807 < p.size + 1 := by omega
  have b3 : ¬ 9223372036854775807 < p.size + 1 + n.size := by omega
  unfold joinOf
  cases h : eqs p slashS
  · have hl := eqs_lit false h
    have hl2 : ¬ p.toList = [47] := by simpa using hl
    rw [if_neg (by simp)]
    go_enter Tryd.func19, Tryd.ntmps19
    go_wp2
    go_ret
    exact ⟨rfl, rfl⟩
  · have hl := eqs_lit true h
    have hl2 : p.toList = [47] := by simpa using hl
    have hp2 : Aside (p = slashS) := eqs_iff.1 h
    rw [if_pos rfl]
    go_enter Tryd.func19, Tryd.ntmps19
    go_wp2
    go_ret
    exact ⟨by rw [hp2.out]; rfl, rfl⟩
end Go.Proofs.YthfbdhmdaliihaaDoor
