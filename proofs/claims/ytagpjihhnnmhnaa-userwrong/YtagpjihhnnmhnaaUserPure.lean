/-
  PLAIN FACTS ON USERS: those of a law's own may be; who enters at a label enters below it.
-/
import Derived.Test.YtagpjihhnnmhnaaUserSome
namespace Go.Proofs.Ytagpjihhnnmhnaa
set_option linter.unusedSimpArgs false
set_option linter.unusedVariables false

theorem some_get {l : List Lab} {k i : Nat} {u : Usr} (h : (someTo l k)[i]? = some u) : ∃ x, l[i]? = some x ∧ i < k ∧ u = someAt i x := by
  unfold someTo at h
  rw [List.getElem?_mapIdx] at h
  obtain ⟨x, hx, rfl⟩ := Option.map_eq_some_iff.1 h
  rw [List.getElem?_take] at hx
  split at hx
  · exact ⟨x, hx, by assumption, rfl⟩
  · cases hx
theorem chr_name {i : Nat} (h : i < 26) : name (chr (97 + i)) = true := by
  have e : (UInt8.ofNat (97 + i)).toNat = 97 + i := by simp [UInt8.toNat_ofNat']; omega
  have hs : (chr (97 + i)).size = 1 := rfl
  have ho : okB (UInt8.ofNat (97 + i)) = true := by
    unfold okB
    rw [e]
    simp
    omega
  rw [name, hs]
  show (decide (1 ≤ 1) && (decide (1 ≤ 12) && [UInt8.ofNat (97 + i)].all okB)) = true
  rw [List.all_cons, ho]
  rfl
theorem chr_lt {i j : Nat} (h : i < j) (hj : j < 26) : lt (chr (97 + i)) (chr (97 + j)) = true := by
  unfold lt
  rw [toL, toL]
  show Op.bytesLess [UInt8.ofNat (97 + i)] [UInt8.ofNat (97 + j)] = true
  have : UInt8.ofNat (97 + i) < UInt8.ofNat (97 + j) := by
    rw [UInt8.lt_iff_toNat_lt]
    simp [UInt8.toNat_ofNat']
    omega
  generalize UInt8.ofNat (97 + i) = c at *
  generalize UInt8.ofNat (97 + j) = d at *
  simp [Op.bytesLess, this]
theorem good_chk (x : Lab) : chkL (goodL x) = 0 := by
  have h := good_GL x
  unfold chkL okL inB
  rw [if_pos]
  simp [h.s0, h.s1, h.c0, h.c1, h.i0, h.i1, h.k0, h.k1]
theorem some_okAt (l : List Lab) {k i : Nat} (hk : k ≤ 8) (hi : i < (someTo l k).length) : okAt (someTo l k) i = true := by
  obtain ⟨u, hu⟩ : ∃ u, (someTo l k)[i]? = some u := ⟨_, List.getElem?_eq_getElem hi⟩
  obtain ⟨x, hx, hik, rfl⟩ := some_get hu
  unfold okAt
  rw [hu]
  show (name (chr (97 + i)) && (i == 0 || lt (((someTo l k)[i - 1]?.getD Usr.none).name) (chr (97 + i))) && (chkL (goodL x) == 0)) = true
  rw [chr_name (by omega), good_chk]
  by_cases h0 : i = 0
  · simp [h0]
  · obtain ⟨v, hv⟩ : ∃ v, (someTo l k)[i - 1]? = some v := ⟨_, List.getElem?_eq_getElem (by omega)⟩
    obtain ⟨z, hz, _, rfl⟩ := some_get hv
    rw [hv]
    show (true && (i == 0 || lt (chr (97 + (i - 1))) (chr (97 + i))) && (0 == 0)) = true
    rw [chr_lt (by omega) (by omega)]
    simp
theorem some_ok (l : List Lab) {k : Nat} (hk : k ≤ 8) : uchk (someTo l k) = 0 := by
  have hl := someTo_len l k
  unfold uchk
  rw [if_neg (by omega), if_pos]
  unfold okFrom
  rw [List.all_eq_true]
  intro i hi
  rw [List.mem_range'] at hi
  obtain ⟨j, hj, rfl⟩ := hi
  exact some_okAt l hk (by omega)
theorem some_mem {l : List Lab} {k : Nat} {u : Usr} (h : u ∈ someTo l k) : ∃ i x, i < k ∧ l[i]? = some x ∧ u = someAt i x := by
  obtain ⟨i, hi⟩ := List.mem_iff_getElem?.1 h
  obtain ⟨x, hx, hik, hu⟩ := some_get hi
  exact ⟨i, x, hik, hx, hu⟩
theorem some_fit (l : List Lab) {k : Nat} (hk : k ≤ 8) : ∀ u ∈ someTo l k, -9223372036854775808 ≤ u.salt ∧ u.salt ≤ 9223372036854775807 := fun u h => by
  obtain ⟨i, x, hi, _, rfl⟩ := some_mem h
  show -9223372036854775808 ≤ (i : Int) * 7 ∧ (i : Int) * 7 ≤ 9223372036854775807
  omega
theorem some_size (l : List Lab) {k : Nat} : ∀ u ∈ someTo l k, u.name.size ≤ 9223372036854775807 := fun u h => by
  obtain ⟨i, x, hi, _, rfl⟩ := some_mem h
  show (1 : Nat) ≤ _
  omega
/-- The lattice's words, of labels that may be. -/
theorem rov_lower {c A B : Lab} (hc : GL c) (hA : GL A) (hB : GL B) (h : rov c A = true) : rov c (meetL A B) = true := by
  obtain ⟨nc, rfl, okc⟩ := hc.nl
  obtain ⟨nA, rfl, okA⟩ := hA.nl
  obtain ⟨nB, rfl, okB⟩ := hB.nl
  rw [meet_lab okA okB, rov_ov okc (meet_ok okA okB), ov_iff okc (meet_ok okA okB)]
  rw [rov_ov okc okA, ov_iff okc okA] at h
  exact over_trans h (join_meet nA nB)
theorem meet_GL {A B : Lab} (hA : GL A) (hB : GL B) : GL (meetL A B) := by
  obtain ⟨nA, rfl, okA⟩ := hA.nl
  obtain ⟨nB, rfl, okB⟩ := hB.nl
  rw [meet_lab okA okB]
  exact lab_GL (meet_ok okA okB)
theorem enter_two (l : List Usr) (n : ByteArray) (word : List UInt8) (A : Lab) : enterR l n word A = 0 ∨ enterR l n word A = 21 := by
  unfold enterR
  split
  · split <;> simp
  · simp
theorem enter_lower {l : List Lab} {n : ByteArray} {word : List UInt8} {A B : Lab} (hA : GL A) (hB : GL B) (h : enterR (someTo l 8) n word A = 0) : enterR (someTo l 8) n word (meetL A B) = 0 := by
  unfold enterR at h ⊢
  cases hf : findU (someTo l 8) n with
  | none => rw [hf] at h; cases h
  | some u =>
    rw [hf] at h
    simp only at h ⊢
    obtain ⟨i, x, _, _, rfl⟩ := some_mem (List.mem_of_find?_eq_some hf)
    split at h
    · rename_i hq
      rw [if_pos ⟨hq.1, rov_lower (good_GL x) hA hB hq.2⟩]
    · cases h
end Go.Proofs.Ytagpjihhnnmhnaa
