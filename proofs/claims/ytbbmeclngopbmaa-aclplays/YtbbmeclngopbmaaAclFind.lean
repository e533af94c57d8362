/-
  THE SEARCH FOR A USER's PLACE: slices.BinarySearchFunc as acl calls it, and acl.find.
-/
import Derived.Test.YtbbmeclngopbmaaAclBase
namespace Go.Proofs.Ytbbmeclngopbmaa
open Go.RowKit

theorem Parts.len {l A M B : List Gr} {u : ByteArray} (p : Parts l u A M B) : l.length = A.length + (M.length + B.length) := by rw [p.eq]; simp
theorem Parts.cmp {l A M B : List Gr} {u : ByteArray} (p : Parts l u A M B) {h : Nat} {g : Gr} (hg : l[h]? = some g) : (cmpB g.u u < 0 ↔ h < A.length) ∧ (cmpB g.u u = 0 ↔ (h = A.length ∧ M ≠ [])) := by
  rw [p.eq] at hg
  by_cases h1 : h < A.length
  · rw [List.getElem?_append_left h1] at hg
    have := p.ahead g (List.mem_of_getElem? hg)
    refine ⟨⟨fun _ => h1, fun _ => (cmp_lt _ _).2 this⟩, ⟨fun e => absurd ((cmp_eq0 _ _).1 e) (lt_ne this), fun e => by omega⟩⟩
  · rw [List.getElem?_append_right (by omega)] at hg
    rcases p.mid with hM | ⟨m, hM⟩
    · rw [hM] at hg
      have hb := p.behind g (List.mem_of_getElem? (by simpa using hg))
      refine ⟨⟨fun e => ?_, fun e => absurd e h1⟩, ⟨fun e => absurd ((cmp_eq0 _ _).1 e).symm (lt_ne hb), fun e => absurd hM e.2⟩⟩
      have := (cmp_lt _ _).1 e
      rw [lt_asymm hb] at this
      cases this
    · rw [hM] at hg ⊢
      by_cases h2 : h = A.length
      · subst h2
        simp at hg
        subst hg
        have e0 : cmpB u u = 0 := (cmp_eq0 _ _).2 rfl
        simp [e0]
      · obtain ⟨k, hk⟩ : ∃ k, h - A.length = k + 1 := ⟨h - A.length - 1, by omega⟩
        rw [hk] at hg
        have hb := p.behind g (List.mem_of_getElem? (by simpa using hg))
        refine ⟨⟨fun e => ?_, fun e => absurd e h1⟩, ⟨fun e => absurd ((cmp_eq0 _ _).1 e).symm (lt_ne hb), fun e => absurd e.1 h2⟩⟩
        have := (cmp_lt _ _).1 e
        rw [lt_asymm hb] at this
        cases this

set_option maxHeartbeats 4000000 in
theorem search_any (w : World) (a : Option Addr) (cap : Nat) (l A M B : List Gr) (u : ByteArray) (p : Parts l u A M B) (hG : GAt w a l) (hl : l.length ≤ 1000) :
    Calls Try.prog 23 #[.slice a l.length cap, .string u, .func (.func 24) #[] #[]] w fun e w' => e = .returned (.tuple #[.int .i64 (A.length : Nat), .bool (!M.isEmpty)]) ∧ Below w.heap.size w w' := by
  have hlen := p.len
  obtain ⟨n, hn⟩ : ∃ n, l.length = n := ⟨_, rfl⟩
  obtain ⟨c, hc⟩ : ∃ c, A.length = c := ⟨_, rfl⟩
  obtain ⟨b, hb⟩ : ∃ b, (!M.isEmpty) = b := ⟨_, rfl⟩
  have hcmp : ∀ (h : Nat) (g : Gr), l[h]? = some g → (cmpB g.u u < 0 ↔ h < c) ∧ (cmpB g.u u = 0 ↔ (h = c ∧ b = true)) := by
    intro h g hg
    have := p.cmp hg
    rw [hc] at this
    refine ⟨this.1, this.2.trans ?_⟩
    rw [← hb]
    cases M <;> simp
  have hcn : c ≤ n := by omega
  have hbn : b = true → c < n := by
    intro h
    rw [← hb] at h
    cases M with
    | nil => simp at h
    | cons x y => simp at hlen; omega
  rw [hn, hc, hb]
  rw [hn] at hl
  clear p hb hc hlen
  go_enter Try.func23, Try.ntmps23
  go_wp2
  go_loopg [9, 10] n (fun kx s9 s10 wr => ∃ lo hi : Nat, s9 = .int .i64 lo ∧ s10 = .int .i64 hi ∧ lo ≤ c ∧ c ≤ hi ∧ hi ≤ n ∧ hi - lo ≤ kx ∧ Below w.heap.size w wr)
  case atStart => exact ⟨0, n, rfl, rfl, Nat.zero_le _, hcn, Nat.le_refl _, by omega, Below.refl _ _⟩
  case round =>
    obtain ⟨lo, hi, rfl, rfl, hlo, hhi, hin, hg, hB⟩ := hrel
    by_cases hlt : lo < hi
    · obtain ⟨y, hy⟩ : ∃ y, l[(lo + hi) / 2]? = some y := ⟨_, List.getElem?_eq_getElem (by omega)⟩
      obtain ⟨x, rfl, c0, c1⟩ := (hG.below hB) _ _ hy
      have hcy := hcmp _ _ hy
      by_cases hyx : cmpB y.u u < 0
      · have hlt2 := hcy.1.1 hyx
        go_wp2_with (go_at_call 24; refine (cmp_any y u _).mono ?_; rintro e w' ⟨rfl, hBw⟩)
        go_roundg (hi - ((lo + hi) / 2 + 1))
        case measure => omega
        case rel => exact ⟨(lo + hi) / 2 + 1, hi, by rw [show ((lo : Int) + (hi : Int)) / 2 + 1 = (((lo + hi) / 2 + 1 : Nat) : Int) by omega], rfl, by omega, hhi, hin, Nat.le_refl _, Below.then hB hBw⟩
      · have hge : c ≤ (lo + hi) / 2 := Nat.le_of_not_lt fun h => hyx (hcy.1.2 h)
        go_wp2_with (go_at_call 24; refine (cmp_any y u _).mono ?_; rintro e w' ⟨rfl, hBw⟩)
        go_roundg ((lo + hi) / 2 - lo)
        case measure => omega
        case rel => exact ⟨lo, (lo + hi) / 2, rfl, by rw [show ((lo : Int) + (hi : Int)) / 2 = (((lo + hi) / 2 : Nat) : Int) by omega], hlo, hge, by omega, Nat.le_refl _, Below.then hB hBw⟩
    · obtain rfl : lo = c := by omega
      by_cases hln : lo < n
      · obtain ⟨y, hy⟩ : ∃ y, l[lo]? = some y := ⟨_, List.getElem?_eq_getElem (by omega)⟩
        obtain ⟨x, rfl, c0, c1⟩ := (hG.below hB) _ _ hy
        have hcy := (hcmp _ _ hy).2
        by_cases hyx : cmpB y.u u = 0
        · obtain rfl : b = true := (hcy.1 hyx).2
          go_wp2_with (go_at_call 24; refine (cmp_any y u _).mono ?_; rintro e w' ⟨rfl, hBw⟩)
          go_ret2
          exact ⟨by simp, Below.then hB hBw⟩
        · obtain rfl : b = false := by
            cases b
            · rfl
            · exact absurd (hcy.2 ⟨rfl, rfl⟩) hyx
          go_wp2_with (go_at_call 24; refine (cmp_any y u _).mono ?_; rintro e w' ⟨rfl, hBw⟩)
          go_ret2
          exact ⟨by simp [hyx], Below.then hB hBw⟩
      · obtain rfl : b = false := by
          cases b
          · rfl
          · exact absurd (hbn rfl) hln
        go_wp2
        go_ret2
        exact ⟨rfl, hB⟩

set_option maxHeartbeats 1000000 in
theorem find_any (w : World) (a : Option Addr) (cap : Nat) (l A M B : List Gr) (u : ByteArray) (p : Parts l u A M B) (hG : GAt w a l) (hl : l.length ≤ 1000) :
    Calls Try.prog 19 #[.slice a l.length cap, .string u] w fun e w' => e = .returned (.tuple #[.int .i64 (A.length : Nat), .bool (!M.isEmpty)]) ∧ Below w.heap.size w w' := by
  have h := search_any w a cap l A M B u p hG hl
  go_enter Try.func19, Try.ntmps19
  go_wp2_with (go_at_call 23; refine h.mono ?_; rintro e w' ⟨rfl, hB⟩)
  go_ret2
  exact ⟨rfl, hB⟩
end Go.Proofs.Ytbbmeclngopbmaa
