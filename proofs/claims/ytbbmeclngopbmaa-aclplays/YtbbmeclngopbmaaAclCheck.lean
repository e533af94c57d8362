/-
  CHECK: acl.Check, and the document's own.
-/
import Derived.Test.YtbbmeclngopbmaaAclName
namespace Go.Proofs.Ytbbmeclngopbmaa
open Go.RowKit

theorem okL_drop (l : List Gr) {i : Nat} {g : Gr} (hg : l[i]? = some g) : okL (aheadAt l i) (l.drop i) = ((may g.u && (lt (aheadAt l i) g.u && (decide (1 ≤ g.m) && decide (g.m ≤ 7)))) && okL (aheadAt l (i + 1)) (l.drop (i + 1))) := by
  have hi := List.getElem?_eq_some_iff.1 hg
  rw [List.drop_eq_getElem_cons hi.1, hi.2, okL]
  have : aheadAt l (i + 1) = g.u := by simp [aheadAt, List.getD, hg]
  rw [this]
theorem okL_end (l : List Gr) {i : Nat} (h : l.length ≤ i) (a : ByteArray) : okL a (l.drop i) = true := by rw [List.drop_eq_nil_of_le h]; rfl
theorem leq_of {a b : ByteArray} (h : lt a b = false) : (Op.bytesLess b.toList a.toList || b.toList == a.toList) = true := by
  rcases lt_total a b with h1 | h1 | h1
  · rw [h] at h1; cases h1
  · subst h1; simp
  · have : Op.bytesLess b.toList a.toList = true := h1
    simp [this]
theorem leq_not {a b : ByteArray} (h : lt a b = true) : (Op.bytesLess b.toList a.toList || b.toList == a.toList) = false := by
  have h1 : Op.bytesLess b.toList a.toList = false := lt_asymm h
  have h2 : (b.toList == a.toList) = false := eqs_ne (lt_ne h).symm
  rw [h1, h2]; rfl

set_option maxHeartbeats 4000000 in
theorem check_any (w : World) (a : Option Addr) (cap : Nat) (l : List Gr) (hG : GAt w a l) :
    Calls Try.prog 9 #[.slice a l.length cap] w fun e w' => e = .returned (.int .i64 (chk l)) ∧ Below w.heap.size w w' := by
  obtain ⟨n, hn⟩ : ∃ n, l.length = n := ⟨_, rfl⟩
  by_cases h4 : 4 < n
  · have e : chk l = 4 := by simp [chk, hn, h4]
    rw [e, hn]
    clear e
    go_enter Try.func9, Try.ntmps9
    go_wp2
    go_ret
    exact ⟨rfl, Below.refl _ _⟩
  · obtain ⟨r, hr⟩ : ∃ r, chk l = r := ⟨_, rfl⟩
    have hr0 : Aside (r = if okL (aheadAt l 0) (l.drop 0) = true then 0 else 1) := by rw [Aside, ← hr]; simp [chk, hn, h4]; rfl
    rw [hr, hn]
    clear hr
    go_enter Try.func9, Try.ntmps9
    go_wp2
    go_loopw [11, 3] (fun t s wr => ∃ i : Nat, i ≤ n ∧ t = .int .i64 (i : Int) ∧ s = .string (aheadAt l i) ∧ Below w.heap.size w wr ∧ Aside (r = if okL (aheadAt l i) (l.drop i) = true then 0 else 1)) (fun t _ _ => n - (Go.RowKit.intOf t).toNat)
    case atStart => exact ⟨0, by omega, rfl, rfl, Below.refl _ _, hr0⟩
    case round =>
      obtain ⟨i, hi, rfl, rfl, hB, hall⟩ := hrel
      by_cases hlt : i < n
      · obtain ⟨g, hg⟩ : ∃ g, l[i]? = some g := ⟨_, List.getElem?_eq_getElem (by omega)⟩
        obtain ⟨x, rfl, c0, c1⟩ := (hG.below hB) _ _ hg
        have hd := okL_drop l hg
        have hBa := Below.then hB (alloc_below wr (.cells #[.string g.u, .int .i64 g.m] 40))
        obtain ⟨ah, hah⟩ : ∃ ah, aheadAt l i = ah := ⟨_, rfl⟩
        have hnx : aheadAt l (i + 1) = g.u := by simp [aheadAt, List.getD, hg]
        rw [hah] at hd hall ⊢
        cases h1 : may g.u
        · obtain rfl : r = 1 := by rw [hall.out, hd, h1]; rfl
          clear hall hd hr0
          go_wp2_with (go_at_call 17; refine (mayHave_any _ _).mono ?_; rw [h1]; rintro e w' ⟨rfl, rfl⟩)
          go_ret
          exact ⟨rfl, hBa⟩
        cases h2 : lt ah g.u
        · obtain rfl : r = 1 := by rw [hall.out, hd, h2]; simp
          have hq := leq_of h2
          clear hall hd hr0
          go_wp2_with (go_at_call 17; refine (mayHave_any _ _).mono ?_; rw [h1]; rintro e w' ⟨rfl, rfl⟩)
          go_ret
          exact ⟨rfl, hBa⟩
        have hq := leq_not h2
        by_cases h3 : g.m < 1
        · obtain rfl : r = 1 := by rw [hall.out, hd, if_neg]; simp; omega
          clear hall hd hr0
          go_wp2_with (go_at_call 17; refine (mayHave_any _ _).mono ?_; rw [h1]; rintro e w' ⟨rfl, rfl⟩)
          go_ret
          exact ⟨rfl, hBa⟩
        by_cases h5 : 7 < g.m
        · obtain rfl : r = 1 := by rw [hall.out, hd, if_neg]; simp; omega
          clear hall hd hr0
          go_wp2_with (go_at_call 17; refine (mayHave_any _ _).mono ?_; rw [h1]; rintro e w' ⟨rfl, rfl⟩)
          go_ret
          exact ⟨rfl, hBa⟩
        have hn2 : Aside (r = if okL (aheadAt l (i + 1)) (l.drop (i + 1)) = true then 0 else 1) := by
          have e1 : decide (1 ≤ g.m) = true := by simp; omega
          have e2 : decide (g.m ≤ 7) = true := by simp; omega
          rw [hd, h1, h2, e1, e2] at hall
          simpa using hall
        clear hall hd hr0
        go_wp2_with (go_at_call 17; refine (mayHave_any _ _).mono ?_; rw [h1]; rintro e w' ⟨rfl, rfl⟩)
        exact ⟨⟨i + 1, by omega, by simp, by rw [hnx], hBa, hn2⟩, by simp [Go.RowKit.intOf]; omega⟩
      · obtain rfl : r = 0 := by rw [hall.out, okL_end l (by omega)]; rfl
        go_wp2
        go_ret
        exact ⟨rfl, hB⟩
end Go.Proofs.Ytbbmeclngopbmaa
