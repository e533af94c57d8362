/-
  WHAT CHECK ANSWERS OF TEXTS THAT WERE TURNED, AND OF PATHS THAT ARE TOO DEEP, OR TOO LONG.
-/
import Derived.Test.YtenndocmpjmgiaaDoorLPathOf
namespace Go.Proofs.YtenndocmpjmgiaaDoor
set_option linter.unusedSimpArgs false
set_option linter.unusedVariables false

theorem check_three (u : ByteArray) : checkOf u = 0 ∨ checkOf u = 1 ∨ checkOf u = 5 ∧ 78 < u.size := by
  unfold checkOf
  split
  · rename_i h; exact .inr (.inr ⟨rfl, h⟩)
  · split
    · exact .inl rfl
    · split
      · exact .inr (.inl rfl)
      · split
        · exact .inr (.inl rfl)
        · split
          · exact .inl rfl
          · exact .inr (.inl rfl)
/-- Every byte of a path is a slash, or one that a name may have. -/
theorem body_mem : ∀ (ns : List ByteArray), (∀ n ∈ ns, name n = true) → ∀ c ∈ body ns, c = 47 ∨ okB c = true
  | [], _, c, hc => by cases hc
  | n :: r, h, c, hc => by
    rcases List.mem_cons.1 hc with rfl | hc
    · exact .inl rfl
    · rcases List.mem_append.1 hc with hc | hc
      · have := h n (by simp)
        simp only [name, Bool.and_eq_true, decide_eq_true_eq, List.all_eq_true] at this
        exact .inr (this.2.2 c hc)
      · exact body_mem r (fun x hx => h x (by simp [hx])) c hc
/-- A byte that no name has: no path. -/
theorem check_bad {u : ByteArray} {c : UInt8} (hc : c ∈ bytes u) (h47 : c ≠ 47) (hok : okB c = false) (hs : u.size ≤ 78) : checkOf u = 1 := by
  rcases check_three u with h | h | ⟨_, h⟩
  · obtain ⟨ns, hn, rfl, _⟩ := check_path h
    exfalso
    by_cases h0 : ns = []
    · subst h0
      rw [pathB_nil, bytes_slash] at hc
      simp at hc
      exact h47 hc
    · rw [pathB_bytes h0] at hc
      rcases body_mem ns hn.2 c hc with h | h
      · exact h47 h
      · rw [hok] at h; cases h
  · exact h
  · omega
theorem skip_flat {X B : List UInt8} : ∀ (m : List UInt8), (∀ c ∈ m, c ≠ 47) → (∀ A, X ≠ A ++ 47 :: 47 :: B) → ∀ A, m ++ X = A ++ 47 :: 47 :: B → False
  | [], _, hX, A, e => hX A e
  | c :: t, hf, hX, [], e => by
    simp only [List.nil_append, List.cons_append, List.cons.injEq] at e
    exact hf c (by simp) e.1
  | c :: t, hf, hX, a :: A, e => by
    simp only [List.cons_append, List.cons.injEq] at e
    exact skip_flat t (fun x hx => hf x (by simp [hx])) hX A e.2
/-- No two slashes side by side. -/
theorem body_single : ∀ (ns : List ByteArray), (∀ n ∈ ns, Flat n ∧ 1 ≤ n.size) → ∀ A B : List UInt8, body ns ≠ A ++ 47 :: 47 :: B
  | [], _, A, B => by simp [body]
  | n :: r, h, A, B => by
    obtain ⟨hf, h1⟩ := h n (by simp)
    intro e
    simp only [body] at e
    cases A with
    | nil =>
      simp only [List.nil_append, List.cons.injEq, true_and] at e
      cases hb : bytes n with
      | nil => rw [← bytes_len, hb] at h1; simp at h1
      | cons c t =>
        rw [hb] at e
        simp only [List.cons_append, List.cons.injEq] at e
        exact hf c (by rw [hb]; simp) e.1
    | cons a A =>
      simp only [List.cons_append, List.cons.injEq] at e
      exact skip_flat (bytes n) hf (fun A => body_single r (fun x hx => h x (by simp [hx])) A B) A e.2
theorem check_twice {u : ByteArray} {A B : List UInt8} (h : bytes u = A ++ 47 :: 47 :: B) : checkOf u ≠ 0 := by
  intro h0
  obtain ⟨ns, hn, rfl, _⟩ := check_path h0
  by_cases hne : ns = []
  · subst hne
    rw [pathB_nil, bytes_slash] at h
    have := congrArg List.length h
    simp at this
    omega
  · rw [pathB_bytes hne] at h
    exact body_single ns hn.flat A B h
/-- What Check answers of names one behind the other, whatever they are. -/
theorem check_any_names {ns : List ByteArray} (hf : ∀ n ∈ ns, Flat n ∧ 1 ≤ n.size) (hne : ns ≠ []) : checkOf (pathB ns) = if 78 < (pathB ns).size then 5 else if 6 < ns.length then 1 else if ns.all name = true then 0 else 1 := by
  unfold checkOf
  split
  · rfl
  · rw [if_neg (fun e => hne ((path_root (fun n hn => (hf n hn).2)).1 e)), parts_path hf]
    have hb : bytes (pathB ns) = body ns := pathB_bytes hne
    have h2 : ¬ ((pathB ns).size < 2 ∨ (pathB ns).data.toList.getD 0 0 ≠ 47) := by
      cases ns with
      | nil => exact absurd rfl hne
      | cons n r =>
        have := (hf n (by simp)).2
        rw [not_or]
        constructor
        · rw [← bytes_len, hb]
          simp only [body, List.length_cons, List.length_append]
          rw [bytes_len]
          omega
        · show ¬ (bytes (pathB (n :: r))).getD 0 0 ≠ 47
          rw [hb]
          simp [body]
    rw [if_neg h2]
/-- A byte of a text turned into another text. -/
def turnAt (u : ByteArray) (k : Nat) (t : ByteArray) : ByteArray := u.extract 0 k ++ t ++ u.extract (k + 1) u.size
theorem turn_bytes (u : ByteArray) (k : Nat) (t : ByteArray) : bytes (turnAt u k t) = (bytes u).take k ++ (bytes t ++ (bytes u).drop (k + 1)) := by
  unfold turnAt
  rw [bytes_append, bytes_append, bytes_extract, bytes_extract, List.drop_zero, List.take_of_length_le (Nat.le_of_eq (bytes_len u)), List.append_assoc]
theorem turn_bad {u : ByteArray} {k : Nat} (hk : k < u.size) (hs : u.size ≤ 78) {c : UInt8} (h47 : c ≠ 47) (hok : okB c = false) : checkOf (turnAt u k ⟨#[c]⟩) = 1 := by
  refine check_bad (c := c) ?_ h47 hok ?_
  · rw [turn_bytes]
    simp [bytes]
  · rw [← bytes_len, turn_bytes]
    have := bytes_len u
    simp [bytes] at this ⊢
    omega
theorem turn_twice (u : ByteArray) (k : Nat) : checkOf (turnAt u k ⟨#[47, 47]⟩) ≠ 0 :=
  check_twice (A := (bytes u).take k) (B := (bytes u).drop (k + 1)) (by rw [turn_bytes]; rfl)
end Go.Proofs.YtenndocmpjmgiaaDoor
