/-
  WHAT THE LIBRARY'S Split, TrimPrefix, HasPrefix AND LastIndex TELL OF PATHS, IN PLAIN WORDS.
-/
import Derived.Test.YtenndocmpjmgiaaDoorLPathName
import Derived.Lib.SplitLaws
import Derived.Lib.LastIndexByte
namespace Go.Proofs.YtenndocmpjmgiaaDoor
set_option linter.unusedSimpArgs false
set_option linter.unusedVariables false

theorem occ_slash (l : List UInt8) (j : Nat) : Lib.occAt l [47] j = true ↔ l[j]? = some 47 := by
  have e : l[j]? = (l.drop j)[0]? := by rw [List.getElem?_drop]; rfl
  unfold Lib.occAt
  rw [e]
  cases l.drop j with
  | nil => simp
  | cons a t =>
    simp [List.isPrefixOf]
    exact eq_comm
/-- The pieces of a text that is cut at each slash. -/
theorem split_slash : ∀ (k : Nat) (t : ByteArray), Lib.countB t slashS = k → (∀ x ∈ Lib.splitB slashS 0 k t, Flat x) ∧ body (Lib.splitB slashS 0 k t) = 47 :: bytes t := by
  intro k
  induction k with
  | zero =>
    intro t hk
    rcases Lib.index_spec (bytes t) [47] with ⟨hm, hno⟩ | ⟨i, hi, hle, ho, hno⟩
    · rw [Lib.splitB_zero]
      refine ⟨?_, by rw [body_one]⟩
      intro x hx
      simp at hx
      subst hx
      intro c hc e
      subst e
      obtain ⟨j, hj, he⟩ := List.mem_iff_getElem.1 hc
      have := hno j (by omega)
      rw [(occ_slash _ _).2 (by rw [List.getElem?_eq_getElem hj, he])] at this
      cases this
    · have hx : Lib.indexB t slashS = i := hi
      rw [Lib.countB_hit t slashS i (by decide) hx] at hk
      omega
  | succ k ih =>
    intro t hk
    rcases Lib.index_spec (bytes t) [47] with ⟨hm, hno⟩ | ⟨i, hi, hle, ho, hno⟩
    · have hx : Lib.indexB t slashS = -1 := hm
      rw [Lib.countB_miss t slashS hx] at hk
      omega
    · have hx : Lib.indexB t slashS = i := hi
      have hc := Lib.countB_hit t slashS i (by decide) hx
      rw [Lib.splitB_hit slashS 0 k t i hx]
      obtain ⟨h1, h2⟩ := ih (t.extract (i + slashS.size) t.size) (by omega)
      refine ⟨?_, ?_⟩
      · intro x hx
        rcases List.mem_cons.1 hx with rfl | hx
        · intro c hc e
          subst e
          rw [bytes_extract, List.drop_zero] at hc
          obtain ⟨j, hj, he⟩ := List.mem_iff_getElem.1 hc
          rw [List.length_take] at hj
          rw [List.getElem_take] at he
          have := hno j (by omega)
          rw [(occ_slash _ _).2 (by rw [List.getElem?_eq_getElem (by omega), he])] at this
          cases this
        · exact h1 x hx
      · show 47 :: (bytes (t.extract 0 (i + 0)) ++ body (Lib.splitB slashS 0 k (t.extract (i + slashS.size) t.size))) = _
        rw [h2, bytes_extract, bytes_extract, List.drop_zero, List.take_of_length_le (Nat.le_of_eq (bytes_len t))]
        have hg := (occ_slash _ _).1 ho
        obtain ⟨hlt, hv⟩ := List.getElem?_eq_some_iff.1 hg
        congr 1
        conv => rhs; rw [← List.take_append_drop i (bytes t), List.drop_eq_getElem_cons hlt, hv]
        rfl
theorem head_pos {u : ByteArray} (h0 : (bytes u).getD 0 0 = 47) : ∃ t, bytes u = 47 :: t := by
  cases h : bytes u with
  | nil => rw [h] at h0; cases h0
  | cons a t =>
    rw [h] at h0
    simp at h0
    exact ⟨t, by rw [h0]⟩
theorem prefix_slash (u : ByteArray) : Lib.hasPrefix (bytes u) [47] = decide ((bytes u).getD 0 0 = 47) := by
  unfold Lib.hasPrefix
  cases bytes u with
  | nil => rfl
  | cons a t =>
    simp [List.isPrefixOf]
    by_cases h : a = 47
    · simp [h]
    · simp [h]; exact fun e => h e.symm
def trimS (u : ByteArray) : ByteArray := ⟨(Lib.trimPrefix (bytes u) [47]).toArray⟩
def ppartsOf (u : ByteArray) : List ByteArray := if eqs u slashS = true then [] else Lib.splitB slashS 0 (Lib.countB (trimS u) slashS) (trimS u)
theorem slash_size : slashS.size = 1 := rfl
theorem pparts_eq {u : ByteArray} (h0 : (bytes u).getD 0 0 = 47) : ppartsOf u = partsOf u := by
  obtain ⟨t, ht⟩ := head_pos h0
  unfold ppartsOf
  by_cases e : eqs u slashS = true
  · rw [if_pos e, eqs_iff.1 e]
    rfl
  · rw [if_neg e]
    have hs2 : 2 ≤ u.size := by
      rcases Nat.lt_or_ge u.size 2 with h | h
      · exfalso
        apply e
        rw [eqs_bytes, bytes_slash, ht]
        rw [← bytes_len, ht] at h
        cases t with
        | nil => rfl
        | cons a b => simp at h; omega
      · exact h
    obtain ⟨h1, h2⟩ := split_slash _ (trimS u) rfl
    obtain ⟨h3, _⟩ := parts_whole h0 hs2
    refine body_inj _ _ h1 (parts_flat u) ?_
    rw [h2, h3]
    have : bytes (trimS u) = t := by
      show Lib.trimPrefix (bytes u) [47] = t
      unfold Lib.trimPrefix
      rw [prefix_slash, h0, ht]
      rfl
    rw [this, ht]
theorem trim_size (u : ByteArray) : (trimS u).size ≤ u.size := by
  rw [← bytes_len, ← bytes_len]
  show (Lib.trimPrefix (bytes u) [47]).length ≤ _
  unfold Lib.trimPrefix
  split
  · simp
  · exact Nat.le_refl _
theorem body_mem_size : ∀ (l : List ByteArray) (x : ByteArray), x ∈ l → x.size ≤ (body l).length
  | [], x, h => by cases h
  | n :: r, x, h => by
    simp only [body, List.length_cons, List.length_append]
    rw [bytes_len]
    rcases List.mem_cons.1 h with rfl | h
    · omega
    · have := body_mem_size r x h
      omega
theorem pparts_small (u : ByteArray) : ∀ x ∈ ppartsOf u, x.size ≤ u.size + 1 := by
  intro x hx
  unfold ppartsOf at hx
  split at hx
  · cases hx
  · obtain ⟨_, h2⟩ := split_slash _ (trimS u) rfl
    have := body_mem_size _ x hx
    rw [h2, List.length_cons, bytes_len] at this
    have := trim_size u
    omega
theorem body_count : ∀ (l : List ByteArray), l.length ≤ (body l).length
  | [] => Nat.le_refl _
  | n :: r => by
    have := body_count r
    simp only [body, List.length_cons, List.length_append]
    omega
theorem pparts_count (u : ByteArray) : (ppartsOf u).length ≤ u.size + 1 := by
  unfold ppartsOf
  split
  · simp
  · obtain ⟨_, h2⟩ := split_slash _ (trimS u) rfl
    have := body_count (Lib.splitB slashS 0 (Lib.countB (trimS u) slashS) (trimS u))
    rw [h2, List.length_cons, bytes_len] at this
    have := trim_size u
    omega
/-- What the program's Check answers is the document's. -/
theorem pcheck_eq (u : ByteArray) : (if 78 < u.size then (5 : Int) else if Lib.hasPrefix (bytes u) [47] = false then 1 else if 6 < (ppartsOf u).length then 1 else if (ppartsOf u).all name = true then 0 else 1) = checkOf u := by
  unfold checkOf
  rw [prefix_slash]
  by_cases h78 : 78 < u.size
  · rw [if_pos h78, if_pos h78]
  rw [if_neg h78, if_neg h78]
  by_cases h0 : (bytes u).getD 0 0 = 47
  · rw [if_neg (by rw [h0]; decide), pparts_eq h0]
    by_cases e : eqs u slashS = true
    · rw [if_pos e]
      have hp : partsOf u = [] := by rw [eqs_iff.1 e]; rfl
      rw [hp]
      rfl
    · rw [if_neg e, if_neg (c := u.size < 2 ∨ _)]
      rw [not_or]
      refine ⟨fun h => e ?_, fun h => h h0⟩
      obtain ⟨t, ht⟩ := head_pos h0
      rw [eqs_bytes, bytes_slash, ht]
      rw [← bytes_len, ht] at h
      cases t with
      | nil => rfl
      | cons a b => simp at h; omega
  · rw [if_pos (by simpa using h0), if_neg (c := eqs u slashS = true), if_pos (.inr h0)]
    intro e
    rw [eqs_iff.1 e] at h0
    exact h0 rfl

theorem byte_bang (u : ByteArray) (k : Nat) (h : k < u.size) : u.data[k]! = (bytes u).getD k 0 := by
  have hk : k < u.data.size := h
  rw [List.getD_eq_getElem?_getD, Array.getElem?_toList, getElem!_pos u.data k hk, Array.getElem?_eq_getElem hk]
  rfl
theorem byte_is (c : UInt8) : ((c.toNat : Int) = 47) ↔ c = 47 :=
  ⟨fun h => by apply UInt8.toNat_inj.1; have : c.toNat = 47 := by omega
               rw [this]; rfl, fun h => by rw [h]; rfl⟩
theorem last_slash {u : ByteArray} (h0 : (bytes u).getD 0 0 = 47) : ∀ k, 1 ≤ k → k ≤ u.size → Lib.lastIdx u 47 k = (slashTo u k : Nat)
  | 0, h, _ => by omega
  | 1, _, h => by
    unfold Lib.lastIdx slashTo
    rw [byte_bang u 0 (by omega), if_pos ((byte_is _).2 h0), if_pos h0]
  | k + 2, _, h => by
    unfold Lib.lastIdx slashTo
    rw [byte_bang u (k + 1) (by omega)]
    by_cases hc : (bytes u).getD (k + 1) 0 = 47
    · rw [if_pos ((byte_is _).2 hc), if_pos hc]
    · rw [if_neg (fun e => hc ((byte_is _).1 e)), if_neg hc]
      exact last_slash h0 (k + 1) (by omega) (by omega)
theorem last_index {u : ByteArray} (h0 : (bytes u).getD 0 0 = 47) : Lib.lastIndexByte u 47 = (slashTo u u.size : Nat) := by
  obtain ⟨t, ht⟩ := head_pos h0
  have h1 : 1 ≤ u.size := by rw [← bytes_len, ht]; simp
  exact last_slash h0 _ h1 (Nat.le_refl _)

/-- What the program's In answers. -/
def pinOf (u v : ByteArray) : Bool := decide ((joinOf v ⟨#[]⟩).size < u.size) && Lib.hasPrefix (bytes u) (bytes (joinOf v ⟨#[]⟩))
theorem pin_path {a b : List ByteArray} (ha : ∀ n ∈ a, Flat n ∧ 1 ≤ n.size) (hb : ∀ n ∈ b, Flat n ∧ 1 ≤ n.size) : pinOf (pathB a) (pathB b) = true ↔ ∃ c, a = b ++ c ∧ c ≠ [] := by
  have hj : joinOf (pathB b) ⟨#[]⟩ = pathB (b ++ [⟨#[]⟩]) := join_path _ (fun n hn => (hb n hn).2)
  have hjb : bytes (pathB (b ++ [⟨#[]⟩])) = body b ++ [47] := by
    rw [pathB_bytes (by simp), body_append, body_one]
  unfold pinOf
  rw [hj, hjb, ← bytes_len, ← bytes_len, hjb]
  simp only [Bool.and_eq_true, decide_eq_true_eq, Lib.hasPrefix, List.isPrefixOf_iff_prefix, List.length_append, List.length_cons, List.length_nil]
  constructor
  · rintro ⟨h1, r, h2⟩
    have hane : a ≠ [] := by
      rintro rfl
      rw [pathB_nil, bytes_slash] at h1
      simp at h1
    rw [pathB_bytes hane] at h2
    refine body_prefix b a r (fun n hn => (hb n hn).1) (fun n hn => (ha n hn).1) ?_
    rw [← h2]
    simp
  · rintro ⟨c, rfl, hne⟩
    cases c with
    | nil => exact absurd rfl hne
    | cons n r =>
      have h1 := (ha n (by simp)).2
      rw [pathB_bytes (by simp), body_append]
      refine ⟨?_, bytes n ++ body r, by simp [body]⟩
      rw [List.length_append]
      simp only [body, List.length_cons, List.length_append]
      rw [bytes_len]
      omega
theorem pin_eq {a b : List ByteArray} (ha : ∀ n ∈ a, Flat n ∧ 1 ≤ n.size) (hb : ∀ n ∈ b, Flat n ∧ 1 ≤ n.size) : pinOf (pathB a) (pathB b) = inOf (pathB a) (pathB b) := by
  have h1 := pin_path ha hb
  have h2 := in_path ha hb
  cases h : inOf (pathB a) (pathB b)
  · cases h' : pinOf (pathB a) (pathB b)
    · rfl
    · rw [h2.2 (h1.1 h')] at h; cases h
  · exact h1.2 (h2.1 h)
theorem path_head {ns : List ByteArray} : (bytes (pathB ns)).getD 0 0 = 47 := by
  cases ns with
  | nil => rw [pathB_nil]; rfl
  | cons n r => rw [pathB_bytes (by simp)]; rfl
end Go.Proofs.YtenndocmpjmgiaaDoor
