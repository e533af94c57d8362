/-
  MODES: acl.Modes, and the document's own.
-/
import Derived.Test.YtbbmeclngopbmaaAclFind
import Derived.Test.YtbbmeclngopbmaaAclName
namespace Go.Proofs.Ytbbmeclngopbmaa
open Go.RowKit

theorem GAt.mid {w : World} {a : Option Addr} {l A M B : List Gr} {u : ByteArray} (h : GAt w a l) (p : Parts l u A M B) {m : Int} (hM : M = [⟨u, m⟩]) : ∃ x, a = some x ∧ w.cell? ⟨(x.add (A.length * 2)).block, (x.add (A.length * 2)).off + 1, none⟩ = some (.int .i64 m) ∧ A.length < l.length := by
  have hg : l[A.length]? = some ⟨u, m⟩ := by
    rw [p.eq, hM, List.getElem?_append_right (Nat.le_refl _)]
    simp
  obtain ⟨x, hx, _, h1⟩ := h _ _ hg
  exact ⟨x, hx, h1, (List.getElem?_eq_some_iff.1 hg).1⟩

set_option maxHeartbeats 2000000 in
theorem modes_any (w : World) (a : Option Addr) (cap : Nat) (l : List Gr) (u : ByteArray) (hs : Sorted l) (hG : GAt w a l) (hl : l.length ≤ 1000) :
    Calls Try.prog 11 #[.slice a l.length cap, .string u] w fun e w' => e = .returned (.int .i64 (modesL l u)) ∧ Below w.heap.size w w' := by
  obtain ⟨A, M, B, p⟩ := parts_of l u hs
  have hf := find_any w a cap l A M B u p hG hl
  rcases p.mid with hM | ⟨m, hM⟩
  · have e1 : (!M.isEmpty) = false := by rw [hM]; rfl
    rw [e1] at hf
    obtain ⟨A', M', B', p'⟩ := parts_of l star hs
    have hm : modesL l u = (look M' star).getD 0 := by
      unfold modesL
      rw [p.look, hM, p'.look]
      rfl
    rw [hm]
    clear hm
    have hf2 := fun w1 (hB : Below w.heap.size w w1) => find_any w1 a cap l A' M' B' star p' (hG.below hB) hl
    generalize A.length = c at hf
    rcases p'.mid with hM' | ⟨m', hM'⟩
    · have e2 : (!M'.isEmpty) = false := by rw [hM']; rfl
      have e3 : (look M' star).getD 0 = 0 := by rw [hM']; rfl
      rw [e3]
      simp only [e2] at hf2
      generalize A'.length = c' at hf2
      obtain ⟨n, hn⟩ : ∃ n, l.length = n := ⟨_, rfl⟩
      rw [hn] at hf hf2 hl ⊢
      go_enter Try.func11, Try.ntmps11
      go_wp2_with fail
      refine hf.mono ?_
      rintro e w1 ⟨rfl, hB1⟩
      go_wp2_with fail
      refine (hf2 _ hB1).mono ?_
      rintro e w2 ⟨rfl, hB2⟩
      go_wp2_with fail
      go_ret
      exact ⟨rfl, Below.then hB1 hB2⟩
    · have e2 : (!M'.isEmpty) = true := by rw [hM']; rfl
      have e3 : (look M' star).getD 0 = m' := by rw [hM', look_one]; rfl
      rw [e3]
      simp only [e2] at hf2
      have hmid := fun w1 (hB : Below w.heap.size w w1) => (hG.below hB).mid p' hM'
      generalize A'.length = c' at hf2 hmid
      obtain ⟨n, hn⟩ : ∃ n, l.length = n := ⟨_, rfl⟩
      rw [hn] at hf hf2 hmid hl ⊢
      go_enter Try.func11, Try.ntmps11
      go_wp2_with fail
      refine hf.mono ?_
      rintro e w1 ⟨rfl, hB1⟩
      go_wp2_with fail
      refine (hf2 _ hB1).mono ?_
      rintro e w2 ⟨rfl, hB2⟩
      obtain ⟨x, rfl, c1, hlt⟩ := hmid _ (Below.then hB1 hB2)
      go_wp2_with fail
      go_ret
      exact ⟨rfl, Below.then hB1 hB2⟩
  · have e1 : (!M.isEmpty) = true := by rw [hM]; rfl
    rw [e1] at hf
    have hm : modesL l u = m := by
      unfold modesL
      rw [p.look, hM, look_one]
      rfl
    rw [hm]
    clear hm
    have hmid := fun w1 (hB : Below w.heap.size w w1) => (hG.below hB).mid p hM
    generalize A.length = c at hf hmid
    obtain ⟨n, hn⟩ : ∃ n, l.length = n := ⟨_, rfl⟩
    rw [hn] at hf hmid hl ⊢
    go_enter Try.func11, Try.ntmps11
    go_wp2_with fail
    refine hf.mono ?_
    rintro e w1 ⟨rfl, hB1⟩
    obtain ⟨x, rfl, c1, hlt⟩ := hmid _ hB1
    go_wp2_with fail
    go_ret
    exact ⟨rfl, hB1⟩

/-- The document's way. -/
def rmod (u : ByteArray) (a : Int) : List Gr → Int
  | [] => a
  | g :: r => if eqs g.u star = true then rmod u g.m r else if eqs g.u u = true then g.m else rmod u a r
theorem rmod_eq (u : ByteArray) : ∀ (l : List Gr) (a : Int), Sorted l → rmod u a l = if eqs u star = true then (look l star).getD a else (look l u).getD ((look l star).getD a)
  | [], a, _ => by simp [rmod, look]
  | g :: r, a, hs => by
    have hp := List.pairwise_cons.1 hs
    have hno : look r g.u = none := look_none fun x hx => (lt_ne (hp.1 x hx)).symm
    rw [rmod, look_cons, look_cons]
    cases h1 : eqs g.u star
    · simp only [Bool.false_eq_true, if_false]
      cases h2 : eqs g.u u
      · simp only [Bool.false_eq_true, if_false]
        exact rmod_eq u r a hp.2
      · have hus : eqs u star = false := by rw [← eqs_iff.1 h2]; exact h1
        simp [hus]
    · simp only [if_true]
      have e := eqs_iff.1 h1
      rw [e] at hno
      rw [rmod_eq u r g.m hp.2, hno]
      cases h2 : eqs u star
      · have hne : eqs g.u u = false := by
          rw [e]
          refine eqs_ne fun k => ?_
          rw [← k, eqs_self] at h2
          cases h2
        simp [hne]
      · simp
theorem rmod_modes {l : List Gr} (hs : Sorted l) (u : ByteArray) : rmod u 0 l = modesL l u := by
  rw [rmod_eq u l 0 hs]
  unfold modesL
  cases h : eqs u star
  · simp
  · rw [eqs_iff.1 h]
    simp
    cases look l star <;> rfl
theorem star_b {u : ByteArray} {b : Bool} (h : eqs u star = b) : (u.toList == [42]) = b := by
  have : star.toList = [42] := by rw [toL]; rfl
  unfold eqs at h
  rw [this] at h
  exact h
theorem str_b {a b : ByteArray} {x : Bool} (h : eqs a b = x) : (a.toList == b.toList) = x := h

set_option maxHeartbeats 2000000 in
theorem rmodes_any (w : World) (a : Option Addr) (cap : Nat) (l : List Gr) (u : ByteArray) (hs : Sorted l) (hG : GAt w a l) (hl : l.length ≤ 1000) :
    Calls Try.prog 12 #[.slice a l.length cap, .string u] w fun e w' => e = .returned (.int .i64 (modesL l u)) ∧ w' = w := by
  obtain ⟨n, hn⟩ : ∃ n, l.length = n := ⟨_, rfl⟩
  obtain ⟨r, hr⟩ : ∃ r, modesL l u = r := ⟨_, rfl⟩
  have hr0 : Aside (r = rmod u 0 (l.drop 0)) := by rw [Aside, ← hr]; exact (rmod_modes hs u).symm
  rw [hr, hn]
  rw [hn] at hl
  clear hr hs
  go_enter Try.func12, Try.ntmps12
  go_wp2_with fail
  go_loopw [5, 6] (fun s t wr => ∃ (i : Nat) (al : Int), i ≤ n ∧ t = .int .i64 (i : Int) ∧ s = .int .i64 al ∧ wr = w ∧ Aside (r = rmod u al (l.drop i))) (fun _ t _ => n - (Go.RowKit.intOf t).toNat)
  case atStart => exact ⟨0, 0, by omega, rfl, rfl, rfl, hr0⟩
  case round =>
    obtain ⟨i, al, hi, rfl, rfl, rfl, hall⟩ := hrel
    by_cases hlt : i < n
    · obtain ⟨g, hg⟩ : ∃ g, l[i]? = some g := ⟨_, List.getElem?_eq_getElem (by omega)⟩
      obtain ⟨x, rfl, c0, c1⟩ := hG _ _ hg
      have hd : l.drop i = g :: l.drop (i + 1) := by
        have h := List.getElem?_eq_some_iff.1 hg
        rw [List.drop_eq_getElem_cons h.1, h.2]
      rw [hd, rmod] at hall
      clear hd hr0
      cases h1 : eqs g.u star
      · cases h2 : eqs g.u u
        · have hn2 : Aside (r = rmod u al (l.drop (i + 1))) := by rw [h1, h2] at hall; simpa using hall
          have k1 := star_b h1
          have k2 := str_b h2
          clear hall
          go_wp2_with fail
          exact ⟨⟨i + 1, al, by omega, by simp, rfl, trivial, hn2⟩, by simp [Go.RowKit.intOf]; omega⟩
        · obtain rfl : r = g.m := by rw [hall.out, h1, h2]; simp
          have k1 := star_b h1
          have k2 := str_b h2
          clear hall
          go_wp2_with fail
          go_ret
          exact ⟨rfl, rfl⟩
      · have hn2 : Aside (r = rmod u g.m (l.drop (i + 1))) := by rw [h1] at hall; simpa using hall
        have k1 := star_b h1
        clear hall
        go_wp2_with fail
        exact ⟨⟨i + 1, g.m, by omega, by simp, rfl, trivial, hn2⟩, by simp [Go.RowKit.intOf]; omega⟩
    · obtain rfl : r = al := by rw [hall.out, List.drop_eq_nil_of_le (by omega)]; rfl
      clear hall hr0
      go_wp2_with fail
      go_ret
      exact ⟨rfl, rfl⟩
end Go.Proofs.Ytbbmeclngopbmaa
