/-
  HAS A LOG THIS STATE (the laws' holds)?
-/
import Derived.Test.YtgjnlocokkjejaaWalState
namespace Go.Proofs.Ytgjnlocokkjejaa
open Go.RowKit Go.Maps

/-- What a sector must have, for a text. -/
def wantOf (T : ByteArray) : ByteArray := if T = ⟨#[]⟩ then textOf zeros else T

theorem bytes_ne {X Y : ByteArray} (h : ¬ X = Y) : (X.toList == Y.toList) = false := by
  rw [beq_eq_false_iff_ne]
  intro e
  apply h
  apply ByteArray.ext
  apply Array.ext'
  rw [← Go.ByteArray.toList_eq, ← Go.ByteArray.toList_eq]
  exact e
theorem bytes_some {T : ByteArray} (h : ¬ T = ⟨#[]⟩) : T.toList.isEmpty = false := by
  cases he : T.toList with
  | nil =>
    exfalso
    apply h
    apply ByteArray.ext
    apply Array.ext'
    rw [← Go.ByteArray.toList_eq, he]
  | cons a r => rfl

set_option maxRecDepth 4000 in
set_option maxHeartbeats 4000000 in
theorem holds_any {w : World} {lb db pb mb B : Nat} {U : Nat → List Int} {s : Int} (h : Works w lb db pb mb 60 B U s) (S : List ByteArray) (hS : S.length = 18) :
    Calls Try.prog 30 #[.pointer (some ⟨lb, 0, none⟩), stOf S] w fun e w' => ∃ b : Bool, e = .returned (.bool b) ∧ (b = true ↔ ∀ k, k < 18 → textOf (U (42 + k)) = wantOf (S.getD k ⟨#[]⟩)) ∧ Works w' lb db pb mb 60 B U s ∧ Kept [lb] w w' := by
  obtain ⟨W0, hW0⟩ : ∃ W0, w.alloc (.cells (stCells S).toArray 58) = W0 := ⟨_, rfl⟩
  have s0 : StAt W0 w.heap.size S := by rw [← hW0]; exact st_new w _ hS
  have k0 : Kept [] w W0 := by rw [← hW0]; exact Kept.of_alloc _ _ _
  have h0 := h.kept k0 (by simp) (by simp) (by simp) (by simp)
  have lts := h.lts
  obtain ⟨sb, hsb⟩ : ∃ sb, w.heap.size = sb := ⟨_, rfl⟩
  have hsw : w.heap.size ≤ sb := by omega
  rw [hsb] at s0
  go_enter Try.func30, Try.ntmps30
  go_wp2_with (first
    | (refine wpList_box_st rfl _ rfl S rfl hW0 ?_)
    | fail)
  clear hW0 hsb
  go_loopw [5] (fun t wr => ∃ q : Int, 0 ≤ q ∧ q ≤ 18 ∧ t = .int .i64 q ∧ (∀ k, k < q.toNat → textOf (U (42 + k)) = wantOf (S.getD k ⟨#[]⟩)) ∧ StAt wr sb S ∧ Works wr lb db pb mb 60 B U s ∧ Kept [lb] w wr) (fun t _ => 18 - (Go.RowKit.intOf t).toNat)
  case atStart => exact ⟨0, by omega, by omega, rfl, by intro k hk; omega, s0, h0, k0.mono (by simp)⟩
  case round =>
    obtain ⟨q, hq0, hq1, rfl, hall, sq, hw, kq⟩ := hrel
    clear s0 h0 k0
    by_cases hlt : q < 18
    · have cR := read_works hw (42 + q) (by omega) (by omega)
      have hun : (42 + q).toNat = 42 + q.toNat := by omega
      rw [hun] at cR
      go_wp2_with fail
      refine cR.mono ?_
      rintro e w1 ⟨g, rfl, hg, hr, hsec, hw1, k1⟩
      clear cR hun
      have lt1 := hw.lts
      have hsl := sq.lt
      have s1 := sq.kept k1 (by simp; omega)
      have kf := kq.trans k1
      obtain ⟨c1, _⟩ := s1.cell q.toNat (by omega)
      obtain ⟨T, hT⟩ : ∃ T, S.getD q.toNat ⟨#[]⟩ = T := ⟨_, rfl⟩
      rw [hT] at c1
      have hsz := kq.size
      have hks : ∀ k, k < (q + 1).toNat → k ≠ q.toNat → k < q.toNat := by intro k hk hne; omega
      by_cases he : T = ⟨#[]⟩
      · subst he
        have hmk := make_bytes
        have tA := text_conv (w1.alloc (.cells (rowOf zeros) 5)) g 128 128 (U (42 + q.toNat)) (World.rangeAt_alloc (row_range hr) _) hsec.1
        have tB := text_conv (w1.alloc (.cells (rowOf zeros) 5)) w1.heap.size 128 128 zeros (range_new w1 zeros _) zeros_sec.1
        have kA : Kept [] w1 (w1.alloc (.cells (rowOf zeros) 5)) := Kept.of_alloc _ _ _
        have s2 := s1.kept kA (by simp)
        have hw2 := hw1.kept kA (by simp) (by simp) (by simp) (by simp)
        have kf2 := kf.trans (kA.mono (by simp))
        obtain ⟨X, hX⟩ : ∃ X, textOf (U (42 + q.toNat)) = X := ⟨_, rfl⟩
        obtain ⟨Y, hY⟩ : ∃ Y, textOf zeros = Y := ⟨_, rfl⟩
        rw [hX] at tA
        rw [hY] at tB
        have hwant : wantOf (S.getD q.toNat ⟨#[]⟩) = Y := by rw [hT, wantOf, if_pos rfl, hY]
        by_cases hxy : X = Y
        · have hall' : ∀ k, k < (q + 1).toNat → textOf (U (42 + k)) = wantOf (S.getD k ⟨#[]⟩) := by
            intro k hk
            by_cases e : k = q.toNat
            · rw [e, hX, hwant, hxy]
            · exact hall k (hks k hk e)
          clear hall hks hX hY hT hwant sq hw hw1 s1 hr kA
          subst hxy
          go_wp2_with fail
          go_roundw
          case rel => exact ⟨q + 1, by omega, by omega, by first | rfl | go_num, hall', s2, hw2, kf2⟩
          case measure => simp [Go.RowKit.intOf]; omega
        · have hno : ¬ ∀ k, k < 18 → textOf (U (42 + k)) = wantOf (S.getD k ⟨#[]⟩) := fun hh => hxy (by rw [← hX, ← hwant]; exact hh q.toNat (by omega))
          have hxy' := bytes_ne hxy
          clear hall hks hX hY hT hwant sq hw hw1 s1 hr kA hxy
          go_wp2
          go_ret
          exact ⟨false, rfl, ⟨fun h => absurd h (by decide), fun h => absurd h hno⟩, hw2, kf2⟩
      · have tA := text_conv w1 g 128 128 (U (42 + q.toNat)) (row_range hr) hsec.1
        obtain ⟨X, hX⟩ : ∃ X, textOf (U (42 + q.toNat)) = X := ⟨_, rfl⟩
        rw [hX] at tA
        have hwant : wantOf (S.getD q.toNat ⟨#[]⟩) = T := by rw [hT, wantOf, if_neg he]
        have he' := bytes_some he
        by_cases hxy : X = T
        · have hall' : ∀ k, k < (q + 1).toNat → textOf (U (42 + k)) = wantOf (S.getD k ⟨#[]⟩) := by
            intro k hk
            by_cases e : k = q.toNat
            · rw [e, hX, hwant, hxy]
            · exact hall k (hks k hk e)
          clear hall hks hX hT hwant sq hw hr he
          subst hxy
          go_wp2_with fail
          go_roundw
          case rel => exact ⟨q + 1, by omega, by omega, by first | rfl | go_num, hall', s1, hw1, kf⟩
          case measure => simp [Go.RowKit.intOf]; omega
        · have hno : ¬ ∀ k, k < 18 → textOf (U (42 + k)) = wantOf (S.getD k ⟨#[]⟩) := fun hh => hxy (by rw [← hX, ← hwant]; exact hh q.toNat (by omega))
          have hxy' := bytes_ne hxy
          clear hall hks hX hT hwant sq hw hr hxy he
          go_wp2
          go_ret
          exact ⟨false, rfl, ⟨fun h => absurd h (by decide), fun h => absurd h hno⟩, hw1, kf⟩
    · obtain rfl : q = 18 := by omega
      have hall' : ∀ k, k < 18 → textOf (U (42 + k)) = wantOf (S.getD k ⟨#[]⟩) := hall
      clear hall
      go_wp2
      go_ret
      exact Or.inr ⟨rfl, by simpa using hall', hw, kq⟩
end Go.Proofs.Ytgjnlocokkjejaa
