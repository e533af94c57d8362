/-
  USERS IN ORDER: more users behind a law's own; two that changed places, two of one name.
-/
import Derived.Test.YtagpjihhnnmhnaaUserTurn
namespace Go.Proofs.Ytagpjihhnnmhnaa
open Go.RowKit
set_option linter.unusedSimpArgs false
set_option linter.unusedVariables false

def xAt (k : Nat) : Usr := ⟨⟨#[120]⟩ ++ chr (97 + k), 0, 0, goodL ⟨0, 0, 0, 0⟩, false⟩
def moreU (l : List Lab) (m : Nat) : List Usr := someTo l 8 ++ (List.range m).map xAt
theorem moreU_zero (l : List Lab) : moreU l 0 = someTo l 8 := by simp [moreU]
theorem moreU_succ (l : List Lab) (m : Nat) : moreU l (m + 1) = moreU l m ++ [xAt m] := by simp [moreU, List.range_succ]
theorem moreU_len (l : List Lab) (m : Nat) : (moreU l m).length = min 8 l.length + m := by simp [moreU, someTo_len]
theorem xname (k : Nat) : (xAt k).name = ⟨#[120, UInt8.ofNat (97 + k)]⟩ := by
  show (⟨#[120]⟩ : ByteArray) ++ chr (97 + k) = _
  apply ByteArray.ext
  rw [ByteArray.data_append]
  rfl
theorem letter_val {k : Nat} (h : k < 26) : (UInt8.ofNat (97 + k)).toNat = 97 + k := by
  simp [UInt8.toNat_ofNat']
  omega
theorem xname_ok {k : Nat} (h : k < 26) : name (xAt k).name = true := by
  rw [xname]
  have ho : okB (UInt8.ofNat (97 + k)) = true := by
    unfold okB
    rw [letter_val h]
    simp
    omega
  show (decide (1 ≤ 2) && (decide (2 ≤ 12) && [120, UInt8.ofNat (97 + k)].all okB)) = true
  rw [List.all_cons, List.all_cons, ho]
  rfl
theorem xlt {i j : Nat} (h : i < j) (hj : j < 26) : lt (xAt i).name (xAt j).name = true := by
  rw [xname, xname]
  unfold lt
  rw [toL, toL]
  show Op.bytesLess [120, UInt8.ofNat (97 + i)] [120, UInt8.ofNat (97 + j)] = true
  have : UInt8.ofNat (97 + i) < UInt8.ofNat (97 + j) := by
    rw [UInt8.lt_iff_toNat_lt, letter_val (by omega), letter_val hj]
    omega
  generalize UInt8.ofNat (97 + i) = c at *
  generalize UInt8.ofNat (97 + j) = d at *
  simp [Op.bytesLess, this, UInt8.lt_irrefl]
theorem clt {i : Nat} (h : i < 8) (j : Nat) : lt (chr (97 + i)) (xAt j).name = true := by
  rw [xname]
  unfold lt
  rw [toL, toL]
  show Op.bytesLess [UInt8.ofNat (97 + i)] [120, UInt8.ofNat (97 + j)] = true
  have : UInt8.ofNat (97 + i) < 120 := by
    rw [UInt8.lt_iff_toNat_lt, letter_val (by omega)]
    show 97 + i < 120
    omega
  generalize UInt8.ofNat (97 + i) = c at *
  simp [Op.bytesLess, this]
theorem more_get {l : List Lab} {m i : Nat} {u : Usr} (h : (moreU l m)[i]? = some u) : (∃ x, i < 8 ∧ u = someAt i x) ∨ ∃ j, j < m ∧ i = min 8 l.length + j ∧ u = xAt j := by
  unfold moreU at h
  rw [List.getElem?_append] at h
  split at h
  · obtain ⟨x, _, hi, hu⟩ := some_get h
    exact .inl ⟨x, hi, hu⟩
  · rename_i hlt
    rw [someTo_len] at h hlt
    rw [List.getElem?_map] at h
    obtain ⟨j, hj, rfl⟩ := Option.map_eq_some_iff.1 h
    obtain ⟨h1, h2⟩ := List.getElem?_eq_some_iff.1 hj
    rw [List.length_range] at h1
    rw [List.getElem_range] at h2
    exact .inr ⟨j, by omega, by omega, rfl⟩
theorem more_okAt (l : List Lab) {m i : Nat} (hm : m ≤ 20) (hi : i < (moreU l m).length) : okAt (moreU l m) i = true := by
  obtain ⟨u, hu⟩ : ∃ u, (moreU l m)[i]? = some u := ⟨_, List.getElem?_eq_getElem hi⟩
  unfold okAt
  rw [hu]
  show (name u.name && (i == 0 || lt (((moreU l m)[i - 1]?.getD Usr.none).name) u.name) && (chkL u.clear == 0)) = true
  have hn : name u.name = true ∧ chkL u.clear = 0 := by
    rcases more_get hu with ⟨x, h8, rfl⟩ | ⟨j, hj, _, rfl⟩
    · exact ⟨chr_name (by omega), good_chk x⟩
    · exact ⟨xname_ok (by omega), good_chk _⟩
  rw [hn.1, hn.2]
  by_cases h0 : i = 0
  · simp [h0]
  · obtain ⟨v, hv⟩ : ∃ v, (moreU l m)[i - 1]? = some v := ⟨_, List.getElem?_eq_getElem (by omega)⟩
    have hl : lt v.name u.name = true := by
      rcases more_get hv with ⟨z, h8, rfl⟩ | ⟨j', hj', he', rfl⟩
      · rcases more_get hu with ⟨x, h8', rfl⟩ | ⟨j, hj, _, rfl⟩
        · exact chr_lt (by omega) (by omega)
        · exact clt h8 j
      · rcases more_get hu with ⟨x, h8', rfl⟩ | ⟨j, hj, he, rfl⟩
        · exfalso
          have hlen := (List.getElem?_eq_some_iff.1 hu).1
          obtain ⟨y, hy⟩ : ∃ y, (moreU l m)[i]? = some y := ⟨_, hu⟩
          unfold moreU at hu
          rw [List.getElem?_append_right (by rw [someTo_len]; omega), List.getElem?_map] at hu
          obtain ⟨q, _, hq⟩ := Option.map_eq_some_iff.1 hu
          have h1 : (xAt q).name.size = (someAt i x).name.size := by rw [hq]
          rw [xname] at h1
          have h2 : (someAt i x).name.size = 1 := rfl
          have h3 : (⟨#[120, UInt8.ofNat (97 + q)]⟩ : ByteArray).size = 2 := rfl
          omega
        · exact xlt (by omega) (by omega)
    rw [hv]
    show (true && (i == 0 || lt v.name u.name) && (0 == 0)) = true
    rw [hl]
    simp
theorem more_chk (l : List Lab) {m : Nat} (hm : m ≤ 20) : uchk (moreU l m) = if 16 < (moreU l m).length then 4 else 0 := by
  unfold uchk
  have : okFrom (moreU l m) 0 = true := by
    unfold okFrom
    rw [List.all_eq_true]
    intro i hi
    rw [List.mem_range'] at hi
    obtain ⟨j, hj, rfl⟩ := hi
    exact more_okAt l hm (by omega)
  rw [this]
  rfl
theorem uchk_bad {x : List Usr} {i : Nat} (hi : i < x.length) (h16 : x.length ≤ 16) (h : okAt x i = false) : uchk x = 1 := by
  unfold uchk
  rw [if_neg (by omega), if_neg]
  unfold okFrom
  rw [List.all_eq_true]
  intro hall
  have := hall i (by rw [List.mem_range']; exact ⟨i, by omega, by omega⟩)
  rw [h] at this
  cases this
theorem okAt_lt {x : List Usr} {k : Nat} {u v : Usr} (h : okAt x (k + 1) = true) (hu : x[k]? = some u) (hv : x[k + 1]? = some v) : lt u.name v.name = true := by
  unfold okAt at h
  rw [hv] at h
  simp only [Nat.add_sub_cancel, hu, Option.getD_some, Bool.and_eq_true] at h
  simpa using h.1.2
theorem okAt_not {x : List Usr} {k : Nat} {u v : Usr} (hu : x[k]? = some u) (hv : x[k + 1]? = some v) (h : lt u.name v.name = false) : okAt x (k + 1) = false := by
  unfold okAt
  rw [hv]
  simp only [Nat.add_sub_cancel, hu, Option.getD_some]
  simp [h]
/-- Two that changed places. -/
theorem swap_bad {us : List Usr} {k : Nat} {u v : Usr} (hok : okAt us (k + 1) = true) (hu : us[k]? = some u) (hv : us[k + 1]? = some v) (h16 : us.length ≤ 16) : uchk ((us.set k v).set (k + 1) u) = 1 := by
  have hl := (List.getElem?_eq_some_iff.1 hv).1
  have h1 : ((us.set k v).set (k + 1) u)[k]? = some v := by
    rw [List.getElem?_set_ne (by omega), List.getElem?_set_self (by omega)]
  have h2 : ((us.set k v).set (k + 1) u)[k + 1]? = some u := by
    rw [List.getElem?_set_self (by rw [List.length_set]; omega)]
  exact uchk_bad (i := k + 1) (by simp; omega) (by simp; omega) (okAt_not h1 h2 (lt_asymm (okAt_lt hok hu hv)))
/-- Two of one name. -/
theorem same_bad {us : List Usr} {k : Nat} {u v : Usr} (hu : us[k]? = some u) (hv : us[k + 1]? = some v) (h16 : us.length ≤ 16) : uchk (us.set (k + 1) { v with name := u.name }) = 1 := by
  have hl := (List.getElem?_eq_some_iff.1 hv).1
  have h1 : (us.set (k + 1) { v with name := u.name })[k]? = some u := by
    rw [List.getElem?_set_ne (by omega), hu]
  have h2 : (us.set (k + 1) { v with name := u.name })[k + 1]? = some { v with name := u.name } := by
    rw [List.getElem?_set_self (by omega)]
  exact uchk_bad (i := k + 1) (by simp; omega) (by simp; omega) (okAt_not h1 h2 (lt_irrefl _))
end Go.Proofs.Ytagpjihhnnmhnaa
