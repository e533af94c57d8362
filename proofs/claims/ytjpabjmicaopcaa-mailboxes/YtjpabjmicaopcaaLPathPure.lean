/-
  PATHS AS LISTS OF NAMES, IN PLAIN WORDS: what the document's functions tell of them.
-/
import Derived.Test.YtjpabjmicaopcaaLPathParts
namespace Go.Proofs.Ytjpabjmicaopcaa
set_option linter.unusedSimpArgs false
set_option linter.unusedVariables false

abbrev bytes (u : ByteArray) : List UInt8 := u.data.toList
theorem bytes_len (u : ByteArray) : (bytes u).length = u.size := Array.length_toList
theorem bytes_inj {u v : ByteArray} (h : bytes u = bytes v) : u = v := ByteArray.ext (Array.ext' h)
theorem bytes_extract (u : ByteArray) (i j : Nat) : bytes (u.extract i j) = ((bytes u).take j).drop i := by
  simp [bytes, ByteArray.data_extract, List.drop_take]
theorem bytes_append (a b : ByteArray) : bytes (a ++ b) = bytes a ++ bytes b := ByteArray.toList_data_append
theorem bytes_slash : bytes slashS = [47] := rfl

/-- Names, a slash ahead of each. -/
def body : List ByteArray → List UInt8
  | [] => []
  | n :: r => 47 :: (bytes n ++ body r)
theorem body_append : ∀ a b : List ByteArray, body (a ++ b) = body a ++ body b
  | [], b => rfl
  | n :: r, b => by simp [body, body_append r b]
theorem body_one (n : ByteArray) : body [n] = 47 :: bytes n := by simp [body]
/-- The path of names. -/
def pathB (ns : List ByteArray) : ByteArray := if ns = [] then slashS else ⟨(body ns).toArray⟩
theorem pathB_bytes {ns : List ByteArray} (h : ns ≠ []) : bytes (pathB ns) = body ns := by simp [pathB, h, bytes]
theorem pathB_nil : pathB [] = slashS := by simp [pathB]
/-- No slash within. -/
def Flat (n : ByteArray) : Prop := ∀ c ∈ bytes n, c ≠ 47
theorem name_flat {n : ByteArray} (h : name n = true) : Flat n := by
  intro c hc e
  simp only [name, Bool.and_eq_true, decide_eq_true_eq, List.all_eq_true] at h
  have := h.2.2 c hc
  rw [e] at this
  revert this
  decide
theorem name_size {n : ByteArray} (h : name n = true) : 1 ≤ n.size ∧ n.size ≤ 12 := by
  simp only [name, Bool.and_eq_true, decide_eq_true_eq] at h
  exact ⟨h.1, h.2.1⟩
theorem eqs_bytes {a b : ByteArray} : eqs a b = true ↔ bytes a = bytes b := by
  unfold eqs
  rw [toL, toL]
  simp

/-! ### Parts, of any text that begins with a slash -/
theorem take_split (l : List UInt8) (f j : Nat) (hj : j ≤ l.length) (hf : f < j) (h : l.getD f 0 = 47) : l.take j = l.take f ++ 47 :: (l.take j).drop (f + 1) := by
  have hl : (l.take j).length = j := by rw [List.length_take]; omega
  have e1 : l.take f = (l.take j).take f := by rw [List.take_take, Nat.min_eq_left (by omega)]
  have e2 : (l.take j)[f]'(by omega) = 47 := by
    rw [List.getElem_take]
    have : l.getD f 0 = l[f]'(by omega) := by simp [show f < l.length by omega]
    rw [← this, h]
  conv => lhs; rw [← List.take_append_drop f (l.take j)]
  rw [← e1, List.drop_eq_getElem_cons (by omega), e2]
theorem parts_inv {u : ByteArray} (h0 : (bytes u).getD 0 0 = 47) : ∀ i, i < u.size → 1 ≤ (partsTo u i).1 ∧ (partsTo u i).1 ≤ i + 1 ∧ (bytes u).take ((partsTo u i).1 - 1) = body (partsTo u i).2 ∧ (bytes u).getD ((partsTo u i).1 - 1) 0 = 47
  | 0, _ => ⟨Nat.le_refl _, Nat.le_refl _, rfl, h0⟩
  | i + 1, hi => by
    obtain ⟨h1, h2, h3, h4⟩ := parts_inv h0 i (by omega)
    unfold partsTo
    split
    · rename_i hc
      have hb : (bytes u).getD (i + 1) 0 = 47 := by
        rcases hc with hc | hc
        · omega
        · exact hc
      refine ⟨by simp, by simp, ?_, by simpa using hb⟩
      show (bytes u).take (i + 2 - 1) = body ((partsTo u i).2 ++ [u.extract (partsTo u i).1 (i + 1)])
      rw [body_append, body_one, bytes_extract, ← h3]
      obtain ⟨f, hf⟩ : ∃ f, (partsTo u i).1 = f + 1 := ⟨(partsTo u i).1 - 1, by omega⟩
      rw [hf] at h4 ⊢
      simp only [Nat.add_sub_cancel] at h4 ⊢
      exact take_split (bytes u) f (i + 1) (by rw [bytes_len]; omega) (by omega) h4
    · exact ⟨h1, by omega, h3, h4⟩
theorem parts_whole {u : ByteArray} (h0 : (bytes u).getD 0 0 = 47) (h2 : 2 ≤ u.size) : body (partsOf u) = bytes u ∧ partsOf u ≠ [] := by
  obtain ⟨m, hm⟩ : ∃ m, u.size = m + 1 := ⟨u.size - 1, by omega⟩
  obtain ⟨h1, hle, h3, h4⟩ := parts_inv h0 m (by omega)
  have hp : partsTo u u.size = (m + 2, (partsTo u m).2 ++ [u.extract (partsTo u m).1 (m + 1)]) := by
    rw [hm]
    show (if m + 1 = u.size ∨ _ then _ else _) = _
    rw [if_pos (.inl hm.symm)]
  rw [partsOf, if_neg (by omega), hp]
  refine ⟨?_, by simp⟩
  rw [body_append, body_one, bytes_extract, ← h3]
  obtain ⟨f, hf⟩ : ∃ f, (partsTo u m).1 = f + 1 := ⟨(partsTo u m).1 - 1, by omega⟩
  rw [hf] at h4 ⊢
  simp only [Nat.add_sub_cancel] at h4 ⊢
  rw [← take_split (bytes u) f (m + 1) (by rw [bytes_len]; omega) (by omega) h4]
  exact List.take_of_length_le (by rw [bytes_len]; omega)

/-- What Check allows: the path of 0 to 6 names. -/
def Names (ns : List ByteArray) : Prop := ns.length ≤ 6 ∧ ∀ n ∈ ns, name n = true
theorem check_path {u : ByteArray} (h : checkOf u = 0) : ∃ ns, Names ns ∧ u = pathB ns ∧ u.size ≤ 78 := by
  unfold checkOf at h
  split at h
  · cases h
  · rename_i h78
    split at h
    · rename_i hs
      exact ⟨[], ⟨by simp, by simp⟩, by rw [pathB_nil]; exact eqs_iff.1 hs, by omega⟩
    · split at h
      · cases h
      · rename_i hc
        rw [not_or] at hc
        split at h
        · cases h
        · split at h
          · rename_i h6 hall
            have h0 : (bytes u).getD 0 0 = 47 := by simpa using hc.2
            obtain ⟨hb, hne⟩ := parts_whole h0 (by omega)
            refine ⟨partsOf u, ⟨by omega, List.all_eq_true.1 hall⟩, bytes_inj ?_, by omega⟩
            rw [pathB_bytes hne, hb]
          · cases h

/-! ### The last slash -/
theorem slash_last (u : ByteArray) (A : List UInt8) (n : ByteArray) (hf : Flat n) (hu : bytes u = A ++ 47 :: bytes n) : ∀ j, j ≤ n.size → slashTo u (A.length + 1 + j) = A.length
  | 0, _ => by
    show (if (bytes u).getD A.length 0 = 47 then A.length else _) = _
    rw [if_pos]
    rw [hu, List.getD_eq_getElem?_getD, List.getElem?_append_right (Nat.le_refl _)]
    simp
  | j + 1, hj => by
    have hjl : j < (bytes n).length := by rw [bytes_len]; omega
    show (if (bytes u).getD (A.length + 1 + j) 0 = 47 then _ else slashTo u (A.length + 1 + j)) = _
    rw [if_neg]
    · exact slash_last u A n hf hu j (by omega)
    · rw [hu, List.getD_eq_getElem?_getD, List.getElem?_append_right (by omega), show A.length + 1 + j - A.length = j + 1 by omega, List.getElem?_cons_succ, List.getElem?_eq_getElem hjl]
      exact hf _ (List.getElem_mem hjl)
theorem slash_path {ns : List ByteArray} {n : ByteArray} (hf : Flat n) : slashTo (pathB (ns ++ [n])) (pathB (ns ++ [n])).size = (body ns).length := by
  have hb : bytes (pathB (ns ++ [n])) = body ns ++ 47 :: bytes n := by rw [pathB_bytes (by simp), body_append, body_one]
  have hs : (pathB (ns ++ [n])).size = (body ns).length + 1 + n.size := by
    rw [← bytes_len, hb, List.length_append, List.length_cons, bytes_len]
    omega
  rw [hs]
  exact slash_last _ _ _ hf hb _ (Nat.le_refl _)
theorem path_size (ns : List ByteArray) (n : ByteArray) : (pathB (ns ++ [n])).size = (body ns).length + 1 + n.size := by
  rw [← bytes_len, pathB_bytes (by simp), body_append, body_one, List.length_append, List.length_cons, bytes_len]
  omega
theorem body_pos {ns : List ByteArray} (h : ns ≠ []) : (body ns).length ≠ 0 := by
  cases ns with
  | nil => exact absurd rfl h
  | cons a r => simp [body]
theorem parent_path {ns : List ByteArray} {n : ByteArray} (hf : Flat n) (hn : 1 ≤ n.size) : parentOf (pathB (ns ++ [n])) = pathB ns := by
  have hsz := path_size ns n
  unfold parentOf
  rw [if_neg (by omega), slash_path hf]
  by_cases h : ns = []
  · subst h
    rw [if_pos (show (body []).length = 0 from rfl), pathB_nil]
    rfl
  · rw [if_neg (body_pos h)]
    apply bytes_inj
    rw [bytes_extract, pathB_bytes (by simp), pathB_bytes h, body_append]
    simp
theorem last_path {ns : List ByteArray} {n : ByteArray} (hf : Flat n) (hn : 1 ≤ n.size) : lastOf (pathB (ns ++ [n])) = n := by
  have hsz := path_size ns n
  unfold lastOf
  rw [if_neg (by omega), slash_path hf]
  apply bytes_inj
  rw [bytes_extract, List.take_of_length_le (by rw [bytes_len]; exact Nat.le_refl _), pathB_bytes (by simp), body_append, body_one]
  rw [show (body ns).length + 1 = (body ns ++ [47]).length by simp, show body ns ++ 47 :: bytes n = (body ns ++ [47]) ++ bytes n by simp, List.drop_left]
theorem parent_root : parentOf (pathB []) = ⟨#[]⟩ := by rw [pathB_nil]; rfl
theorem last_root : lastOf (pathB []) = ⟨#[]⟩ := by rw [pathB_nil]; rfl
theorem path_root {ns : List ByteArray} (hf : ∀ n ∈ ns, 1 ≤ n.size) : eqs (pathB ns) slashS = true ↔ ns = [] := by
  rw [eqs_bytes]
  constructor
  · intro h
    cases ns with
    | nil => rfl
    | cons a r =>
      rw [pathB_bytes (by simp), bytes_slash] at h
      have h1 := congrArg List.length h
      have h2 := hf a (by simp)
      rw [← bytes_len] at h2
      simp [body] at h1
      rw [bytes_len] at h2
      have : (bytes a).length = 0 := by rw [h1.1]; rfl
      rw [bytes_len] at this
      omega
  · rintro rfl
    rw [pathB_nil]
theorem join_path {ns : List ByteArray} (n : ByteArray) (hf : ∀ n ∈ ns, 1 ≤ n.size) : joinOf (pathB ns) n = pathB (ns ++ [n]) := by
  unfold joinOf
  by_cases h : ns = []
  · subst h
    rw [if_pos ((path_root (by simp)).2 rfl)]
    apply bytes_inj
    rw [bytes_append, pathB_nil, bytes_slash, pathB_bytes (by simp)]
    simp [body]
  · rw [if_neg (fun e => h ((path_root hf).1 e))]
    apply bytes_inj
    rw [bytes_append, bytes_append, pathB_bytes h, bytes_slash, pathB_bytes (by simp), body_append, body_one]
    simp

/-! ### Which lies below which -/
theorem split_flat : ∀ (n m X Y : List UInt8), (∀ c ∈ n, c ≠ 47) → (∀ c ∈ m, c ≠ 47) → (X = [] ∨ ∃ r, X = 47 :: r) → (Y = [] ∨ ∃ r, Y = 47 :: r) → n ++ X = m ++ Y → n = m ∧ X = Y
  | [], [], X, Y, _, _, _, _, h => ⟨rfl, h⟩
  | [], c :: m, X, Y, _, hm, hX, _, h => by
    rcases hX with rfl | ⟨r, rfl⟩
    · simp at h
    · simp at h
      exact absurd h.1.symm (hm c (by simp))
  | c :: n, [], X, Y, hn, _, _, hY, h => by
    rcases hY with rfl | ⟨r, rfl⟩
    · simp at h
    · simp at h
      exact absurd h.1 (hn c (by simp))
  | c :: n, d :: m, X, Y, hn, hm, hX, hY, h => by
    simp only [List.cons_append, List.cons.injEq] at h
    obtain ⟨h1, h2⟩ := split_flat n m X Y (fun x hx => hn x (by simp [hx])) (fun x hx => hm x (by simp [hx])) hX hY h.2
    exact ⟨by rw [h.1, h1], h2⟩
theorem body_head (ns : List ByteArray) : body ns = [] ∨ ∃ r, body ns = 47 :: r := by
  cases ns with
  | nil => exact .inl rfl
  | cons a r => exact .inr ⟨_, rfl⟩
theorem body_prefix : ∀ (b a : List ByteArray) (r : List UInt8), (∀ n ∈ b, Flat n) → (∀ n ∈ a, Flat n) → body a = body b ++ 47 :: r → ∃ c, a = b ++ c ∧ c ≠ []
  | [], a, r, _, _, h => ⟨a, rfl, fun e => by rw [e] at h; simp [body] at h⟩
  | n :: b, [], r, _, _, h => by simp [body] at h
  | n :: b, m :: a, r, hb, ha, h => by
    simp only [body, List.cons_append, List.cons.injEq, true_and, List.append_assoc] at h
    obtain ⟨h1, h2⟩ := split_flat (bytes m) (bytes n) (body a) (body b ++ 47 :: r) (ha m (by simp)) (hb n (by simp)) (body_head a) (by
      rcases body_head b with e | ⟨x, e⟩
      · rw [e]; exact .inr ⟨r, rfl⟩
      · rw [e]; exact .inr ⟨_, rfl⟩) h
    obtain ⟨c, hc, hne⟩ := body_prefix b a r (fun x hx => hb x (by simp [hx])) (fun x hx => ha x (by simp [hx])) h2
    exact ⟨c, by rw [hc, bytes_inj h1]; rfl, hne⟩
theorem in_path {a b : List ByteArray} (ha : ∀ n ∈ a, Flat n ∧ 1 ≤ n.size) (hb : ∀ n ∈ b, Flat n ∧ 1 ≤ n.size) : inOf (pathB a) (pathB b) = true ↔ ∃ c, a = b ++ c ∧ c ≠ [] := by
  unfold inOf
  by_cases h : b = []
  · subst h
    rw [if_pos ((path_root (by simp)).2 rfl)]
    simp only [decide_eq_true_eq, List.nil_append]
    constructor
    · intro h1
      refine ⟨a, rfl, fun e => ?_⟩
      subst e
      rw [pathB_nil] at h1
      exact absurd h1 (by decide)
    · rintro ⟨c, rfl, hne⟩
      cases a with
      | nil => exact absurd rfl hne
      | cons n r =>
        have h2 := (ha n (by simp)).2
        rw [← bytes_len, pathB_bytes (by simp)]
        simp only [body, List.length_cons, List.length_append]
        rw [bytes_len]
        omega
  · rw [if_neg (fun e => h ((path_root (fun n hn => (hb n hn).2)).1 e))]
    simp only [Bool.and_eq_true, decide_eq_true_eq]
    constructor
    · rintro ⟨h1, h2, h3⟩
      have hane : a ≠ [] := by
        rintro rfl
        rw [pathB_nil] at h1
        have : (pathB b).size = 0 := by have : slashS.size = 1 := rfl; omega
        rw [← bytes_len, pathB_bytes h] at this
        exact body_pos h this
      rw [eqs_bytes, bytes_extract] at h2
      rw [← bytes_len, ← bytes_len, pathB_bytes h, pathB_bytes hane] at h1
      rw [← bytes_len, pathB_bytes h, pathB_bytes hane] at h2
      rw [← bytes_len, pathB_bytes h] at h3
      have h3' : (body a).getD (body b).length 0 = 47 := by rw [← pathB_bytes hane]; exact h3
      simp only [List.drop_zero] at h2
      have hsplit : body a = body b ++ 47 :: (body a).drop ((body b).length + 1) := by
        conv => lhs; rw [← List.take_append_drop (body b).length (body a)]
        rw [h2, List.drop_eq_getElem_cons h1]
        congr 2
        rw [List.getD_eq_getElem?_getD, List.getElem?_eq_getElem h1] at h3'
        exact h3'
      exact body_prefix b a _ (fun n hn => (hb n hn).1) (fun n hn => (ha n hn).1) hsplit
    · rintro ⟨c, rfl, hne⟩
      have hane : b ++ c ≠ [] := by simp [h]
      obtain ⟨r, hr⟩ : ∃ r, body c = 47 :: r := by
        rcases body_head c with e | e
        · exact absurd (by rw [e]; rfl) (body_pos hne)
        · exact e
      have e1 : body (b ++ c) = body b ++ 47 :: r := by rw [body_append, hr]
      refine ⟨?_, ?_, ?_⟩
      · rw [← bytes_len, ← bytes_len, pathB_bytes h, pathB_bytes hane, e1]
        simp
      · rw [eqs_bytes, bytes_extract, ← bytes_len, pathB_bytes h, pathB_bytes hane, e1]
        simp
      · show (bytes (pathB (b ++ c))).getD (pathB b).size 0 = 47
        rw [← bytes_len, pathB_bytes h, pathB_bytes hane, e1, List.getD_eq_getElem?_getD, List.getElem?_append_right (Nat.le_refl _)]
        simp

/-! ### The parts of a path are its names -/
theorem flat_extract (u : ByteArray) (f i : Nat) (h : ∀ q, f ≤ q → q ≤ i → (bytes u).getD q 0 ≠ 47) : Flat (u.extract f (i + 1)) := by
  intro c hc
  rw [bytes_extract] at hc
  obtain ⟨j, hj, rfl⟩ := List.mem_iff_getElem.1 hc
  rw [List.length_drop, List.length_take] at hj
  rw [List.getElem_drop, List.getElem_take]
  have := h (f + j) (by omega) (by omega)
  rwa [List.getD_eq_getElem?_getD, List.getElem?_eq_getElem (by omega)] at this
theorem parts_flat_inv (u : ByteArray) : ∀ i, i < u.size → (∀ x ∈ (partsTo u i).2, Flat x) ∧ ∀ q, (partsTo u i).1 ≤ q → q ≤ i → (bytes u).getD q 0 ≠ 47
  | 0, _ => ⟨by simp [partsTo], fun q h1 h2 => by have : (partsTo u 0).1 = 1 := rfl; omega⟩
  | i + 1, hi => by
    obtain ⟨h1, h2⟩ := parts_flat_inv u i (by omega)
    unfold partsTo
    split
    · refine ⟨fun x hx => ?_, fun q hq hq2 => by have h9 : i + 2 ≤ q := hq; omega⟩
      rcases List.mem_append.1 hx with hx | hx
      · exact h1 x hx
      · simp at hx
        subst hx
        exact flat_extract u _ _ h2
    · rename_i hc
      rw [not_or] at hc
      refine ⟨h1, fun q hq hq2 => ?_⟩
      by_cases e : q = i + 1
      · subst e; exact hc.2
      · exact h2 q hq (by omega)
theorem parts_flat (u : ByteArray) : ∀ x ∈ partsOf u, Flat x := by
  unfold partsOf
  split
  · simp
  · obtain ⟨m, hm⟩ : ∃ m, u.size = m + 1 := ⟨u.size - 1, by omega⟩
    obtain ⟨h1, h2⟩ := parts_flat_inv u m (by omega)
    have hp : partsTo u u.size = (m + 2, (partsTo u m).2 ++ [u.extract (partsTo u m).1 (m + 1)]) := by
      rw [hm]
      show (if m + 1 = u.size ∨ _ then _ else _) = _
      rw [if_pos (.inl hm.symm)]
    rw [hp]
    intro x hx
    rcases List.mem_append.1 hx with hx | hx
    · exact h1 x hx
    · simp at hx
      subst hx
      exact flat_extract u _ _ h2
theorem body_inj : ∀ (a b : List ByteArray), (∀ n ∈ a, Flat n) → (∀ n ∈ b, Flat n) → body a = body b → a = b
  | [], [], _, _, _ => rfl
  | [], n :: b, _, _, h => by simp [body] at h
  | n :: a, [], _, _, h => by simp [body] at h
  | n :: a, m :: b, ha, hb, h => by
    simp only [body, List.cons.injEq, true_and] at h
    obtain ⟨h1, h2⟩ := split_flat (bytes n) (bytes m) (body a) (body b) (ha n (by simp)) (hb m (by simp)) (body_head a) (body_head b) h
    rw [bytes_inj h1, body_inj a b (fun x hx => ha x (by simp [hx])) (fun x hx => hb x (by simp [hx])) h2]
theorem parts_path {ns : List ByteArray} (hf : ∀ n ∈ ns, Flat n ∧ 1 ≤ n.size) : partsOf (pathB ns) = ns := by
  cases ns with
  | nil => rw [pathB_nil]; rfl
  | cons n r =>
    have hb : bytes (pathB (n :: r)) = body (n :: r) := pathB_bytes (by simp)
    have hs : 2 ≤ (pathB (n :: r)).size := by
      have := (hf n (by simp)).2
      rw [← bytes_len, hb]
      simp only [body, List.length_cons, List.length_append]
      rw [bytes_len]
      omega
    obtain ⟨h1, _⟩ := parts_whole (u := pathB (n :: r)) (by rw [hb]; rfl) hs
    exact body_inj _ _ (parts_flat _) (fun x hx => (hf x hx).1) (h1.trans hb)
theorem Names.flat {ns : List ByteArray} (h : Names ns) : ∀ n ∈ ns, Flat n ∧ 1 ≤ n.size := fun n hn => ⟨name_flat (h.2 n hn), (name_size (h.2 n hn)).1⟩
theorem body_len : ∀ (ns : List ByteArray), (∀ n ∈ ns, name n = true) → (body ns).length ≤ 13 * ns.length
  | [], _ => Nat.le_refl _
  | n :: r, h => by
    have h1 := (name_size (h n (by simp))).2
    have h2 := body_len r (fun x hx => h x (by simp [hx]))
    simp only [body, List.length_cons, List.length_append]
    rw [bytes_len]
    omega
theorem names_size {ns : List ByteArray} (h : Names ns) : (pathB ns).size ≤ 78 := by
  cases ns with
  | nil => rw [pathB_nil]; decide
  | cons n r =>
    have := body_len _ h.2
    have h1 := h.1
    rw [← bytes_len, pathB_bytes (by simp)]
    omega
theorem check_names {ns : List ByteArray} (h : Names ns) : checkOf (pathB ns) = 0 := by
  have hs := names_size h
  unfold checkOf
  rw [if_neg (by omega)]
  by_cases h0 : ns = []
  · subst h0
    rw [if_pos ((path_root (by simp)).2 rfl)]
  · rw [if_neg (fun e => h0 ((path_root (fun n hn => (h.flat n hn).2)).1 e)), parts_path h.flat]
    have hb : bytes (pathB ns) = body ns := pathB_bytes h0
    have h2 : ¬ ((pathB ns).size < 2 ∨ (pathB ns).data.toList.getD 0 0 ≠ 47) := by
      cases ns with
      | nil => exact absurd rfl h0
      | cons n r =>
        have := (h.flat n (by simp)).2
        rw [not_or]
        constructor
        · rw [← bytes_len, hb]
          simp only [body, List.length_cons, List.length_append]
          rw [bytes_len]
          omega
        · show ¬ (bytes (pathB (n :: r))).getD 0 0 ≠ 47
          rw [hb]
          simp [body]
    rw [if_neg h2, if_neg (by have := h.1; omega), if_pos (List.all_eq_true.2 h.2)]
end Go.Proofs.Ytjpabjmicaopcaa
