/-
  NAMES: acl.isName, acl.mayHave, and the document's own.
-/
import Derived.Test.YtbbmeclngopbmaaAclBase
namespace Go.Proofs.Ytbbmeclngopbmaa
open Go.RowKit

theorem all_drop {u : ByteArray} {i : Nat} (h : i < u.size) : (u.data.toList.drop i).all okB = (okB (u[i]'h) && (u.data.toList.drop (i + 1)).all okB) := by
  have hi : i < u.data.toList.length := by rw [Array.length_toList]; exact h
  rw [List.drop_eq_getElem_cons hi, List.all_cons]
  rfl
set_option maxHeartbeats 2000000 in
theorem isName_any (u : ByteArray) (w : World) :
    Calls Try.prog 21 #[.string u] w fun e w' => e = .returned (.bool (name u)) ∧ w' = w := by
  by_cases h1 : 1 ≤ u.size
  · by_cases h2 : u.size ≤ 12
    · have e : name u = (u.data.toList.drop 0).all okB := by simp [name, h1, h2]
      rw [e]
      clear e
      obtain ⟨b, hb⟩ : ∃ b, (u.data.toList.drop 0).all okB = b := ⟨_, rfl⟩
      rw [hb]
      go_enter Try.func21, Try.ntmps21
      go_wp2
      go_loopw [15] (fun t wr => ∃ i : Nat, i ≤ u.size ∧ t = .int .i64 (i : Int) ∧ wr = w ∧ b = (u.data.toList.drop i).all okB) (fun t _ => u.size - (Go.RowKit.intOf t).toNat)
      case atStart => exact ⟨0, by omega, rfl, rfl, hb.symm⟩
      case round =>
        obtain ⟨i, hi, rfl, rfl, hall⟩ := hrel
        by_cases hlt : i < u.size
        · have hd := all_drop hlt
          obtain ⟨k, hk⟩ : ∃ k : Nat, (u[i]'hlt).toNat = k := ⟨_, rfl⟩
          rw [okB, hk] at hd
          by_cases hok : (97 ≤ k ∧ k ≤ 122) ∨ (48 ≤ k ∧ k ≤ 57)
          · have hn : Aside (b = (u.data.toList.drop (i + 1)).all okB) := by
              refine (hall.trans hd).trans ?_
              rcases hok with ⟨h, h'⟩ | ⟨h, h'⟩ <;> simp [h, h']
            clear hall hd
            rcases hok with ⟨h3, h4⟩ | ⟨h3, h4⟩
            · go_wp2
              exact ⟨⟨i + 1, by omega, by simp, trivial, hn.out⟩, by simp [Go.RowKit.intOf]; omega⟩
            · go_wp2
              exact ⟨⟨i + 1, by omega, by simp, trivial, hn.out⟩, by simp [Go.RowKit.intOf]; omega⟩
          · obtain rfl : b = false := by
              refine (hall.trans hd).trans ?_
              rw [Bool.and_eq_false_iff]
              left
              simp only [Bool.or_eq_false_iff, Bool.and_eq_false_iff, decide_eq_false_iff_not]
              omega
            clear hall hd hb
            by_cases h3 : k < 97
            · by_cases h4 : k < 48
              · go_wp2
                go_ret
                exact ⟨rfl, rfl⟩
              · have h5 : 57 < k := by omega
                go_wp2
                go_ret
                exact ⟨rfl, rfl⟩
            · have h5 : 122 < k := by omega
              go_wp2
              go_ret
              exact ⟨rfl, rfl⟩
        · go_wp2
          go_ret
          exact ⟨by rw [hall, List.drop_eq_nil_of_le (by rw [Array.length_toList]; show u.size ≤ i; omega)]; rfl, rfl⟩
    · have e : name u = false := by simp [name, h2]
      rw [e]
      go_enter Try.func21, Try.ntmps21
      go_wp2
      go_ret
      exact ⟨rfl, rfl⟩
  · have e : name u = false := by simp [name, h1]
    rw [e]
    go_enter Try.func21, Try.ntmps21
    go_wp2
    go_ret
    exact ⟨rfl, rfl⟩

set_option maxHeartbeats 2000000 in
theorem rname_any (u : ByteArray) (hu : u.size ≤ 9223372036854775807) (w : World) :
    Calls Try.prog 22 #[.string u] w fun e w' => e = .returned (.bool (name u)) ∧ w' = w := by
  obtain ⟨b, hb⟩ : ∃ b, name u = b := ⟨_, rfl⟩
  rw [hb]
  have hb0 : Aside (b = (decide (1 ≤ u.size) && (decide (u.size ≤ 12) && (u.data.toList.drop 0).all okB))) := by rw [Aside, ← hb]; rfl
  clear hb
  go_enter Try.func22, Try.ntmps22
  go_wp2
  go_loopw [3] (fun t wr => ∃ i : Nat, i ≤ u.size ∧ t = .int .i64 (i : Int) ∧ wr = w ∧ Aside (b = (decide (1 ≤ u.size) && (decide (u.size ≤ 12) && (u.data.toList.drop i).all okB)))) (fun t _ => u.size - (Go.RowKit.intOf t).toNat)
  case atStart => exact ⟨0, by omega, rfl, rfl, hb0⟩
  case round =>
    obtain ⟨i, hi, rfl, rfl, hall⟩ := hrel
    by_cases hlt : i < u.size
    · have hd := all_drop hlt
      obtain ⟨k, hk⟩ : ∃ k : Nat, (u[i]'hlt).toNat = k := ⟨_, rfl⟩
      rw [okB, hk] at hd
      by_cases hok : (97 ≤ k ∧ k ≤ 122) ∨ (48 ≤ k ∧ k ≤ 57)
      · have hn : Aside (b = (decide (1 ≤ u.size) && (decide (u.size ≤ 12) && (u.data.toList.drop (i + 1)).all okB))) := by
          refine hall.out.trans ?_
          rw [hd]
          rcases hok with ⟨h, h'⟩ | ⟨h, h'⟩ <;> simp [h, h']
        clear hall hd
        rcases hok with ⟨h3, h4⟩ | ⟨h3, h4⟩
        · go_wp2
          exact ⟨⟨i + 1, by omega, by simp, trivial, hn⟩, by simp [Go.RowKit.intOf]; omega⟩
        · go_wp2
          exact ⟨⟨i + 1, by omega, by simp, trivial, hn⟩, by simp [Go.RowKit.intOf]; omega⟩
      · obtain rfl : b = false := by
          refine hall.out.trans ?_
          rw [hd]
          rw [Bool.and_eq_false_iff]
          right
          rw [Bool.and_eq_false_iff]
          right
          rw [Bool.and_eq_false_iff]
          left
          simp only [Bool.or_eq_false_iff, Bool.and_eq_false_iff, decide_eq_false_iff_not]
          omega
        clear hall hd hb0
        by_cases h3 : k < 97
        · by_cases h4 : k < 48
          · go_wp2
            go_ret
            exact ⟨rfl, rfl⟩
          · have h5 : 57 < k := by omega
            go_wp2
            go_ret
            exact ⟨rfl, rfl⟩
        · have h5 : 122 < k := by omega
          go_wp2
          go_ret
          exact ⟨rfl, rfl⟩
    · have he : Aside (b = (decide (1 ≤ u.size) && decide (u.size ≤ 12))) := by
        refine hall.out.trans ?_
        rw [List.drop_eq_nil_of_le (by rw [Array.length_toList]; show u.size ≤ i; omega)]
        simp
      clear hall hb0
      by_cases h1 : 1 ≤ u.size
      · by_cases h2 : u.size ≤ 12
        · obtain rfl : b = true := by rw [he.out]; simp [h1, h2]
          go_wp2
          go_ret
          exact ⟨by simp; omega, rfl⟩
        · obtain rfl : b = false := by rw [he.out]; simp [h2]
          go_wp2
          go_ret
          exact ⟨by simp; omega, rfl⟩
      · obtain rfl : b = false := by rw [he.out]; simp [h1]
        go_wp2
        go_ret
        exact ⟨by simp; try omega, rfl⟩

theorem star_yes {u : ByteArray} (h : eqs u star = true) : u.toList = [42] := by
  rw [eqs_iff.1 h, toL]; rfl
theorem star_no {u : ByteArray} (h : eqs u star = false) : ¬ u.toList = [42] := fun e => by
  have : star.toList = [42] := by rw [toL]; rfl
  unfold eqs at h
  rw [e, this] at h
  cases h
set_option maxHeartbeats 1000000 in
theorem mayHave_any (u : ByteArray) (w : World) :
    Calls Try.prog 17 #[.string u] w fun e w' => e = .returned (.bool (may u)) ∧ w' = w := by
  cases h : eqs u star
  · have e : may u = name u := by simp [may, h]
    rw [e]
    clear e
    have h' := star_no h
    go_enter Try.func17, Try.ntmps17
    go_wp2_with (go_at_call 21; refine (isName_any _ _).mono ?_; rintro e w' ⟨rfl, rfl⟩)
    go_ret
    exact ⟨by simp [h'], rfl⟩
  · have e : may u = true := by simp [may, h]
    rw [e]
    clear e
    have h' := star_yes h
    go_enter Try.func17, Try.ntmps17
    go_wp2_with (go_at_call 21; refine (isName_any _ _).mono ?_; rintro e w' ⟨rfl, rfl⟩)
    go_ret
    exact ⟨rfl, rfl⟩
set_option maxHeartbeats 1000000 in
theorem who_any (u : ByteArray) (hu : u.size ≤ 9223372036854775807) (w : World) :
    Calls Try.prog 18 #[.string u] w fun e w' => e = .returned (.bool (may u)) ∧ w' = w := by
  cases h : eqs u star
  · have e : may u = name u := by simp [may, h]
    rw [e]
    clear e
    have h' := star_no h
    go_enter Try.func18, Try.ntmps18
    go_wp2_with (go_at_call 22; refine (rname_any _ hu _).mono ?_; rintro e w' ⟨rfl, rfl⟩)
    go_ret
    exact ⟨by simp [h'], rfl⟩
  · have e : may u = true := by simp [may, h]
    rw [e]
    clear e
    have h' := star_yes h
    go_enter Try.func18, Try.ntmps18
    go_wp2_with (go_at_call 22; refine (rname_any _ hu _).mono ?_; rintro e w' ⟨rfl, rfl⟩)
    go_ret
    exact ⟨rfl, rfl⟩
end Go.Proofs.Ytbbmeclngopbmaa
