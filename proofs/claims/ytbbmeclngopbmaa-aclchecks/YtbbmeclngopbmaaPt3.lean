/-
  PART 3 of what the claims of this seat lean on: AclFind AclModes AclRow AclLaw AclOpen.
-/
import Derived.Laws.CopyRow
import Derived.Laws.CopyOwn
import Derived.Laws.MakeOwn
import Derived.Deep.Slices
import Derived.Test.YtbbmeclngopbmaaRows
import Derived.WalkKit
import Derived.ProofKit
import Derived.OpenShut
import Derived.ChangeSame
import Derived.Deep.Strs
import Derived.Lib.SmallJoins
import Derived.Test.YtbbmeclngopbmaaPt1
/-! THE SEARCH FOR A USER's PLACE: slices.BinarySearchFunc as acl calls it, and acl.find. -/
namespace Go.Proofs.Ytbbmeclngopbmaa
open Go.RowKit
set_option maxRecDepth 8000

theorem Parts.len {l A M B : List Gr} {u : ByteArray} (p : Parts l u A M B) : l.length = A.length + (M.length + B.length) := by rw [p.eq]; simp
theorem Parts.cmp {l A M B : List Gr} {u : ByteArray} (p : Parts l u A M B) {h : Nat} {g : Gr} (hg : l[h]? = some g) : (cmpB g.u u < 0 ↔ h < A.length) ∧ (cmpB g.u u = 0 ↔ (h = A.length ∧ M ≠ [])) := by
  rw [p.eq] at hg
  by_cases h1 : h < A.length
  · rw [List.getElem?_append_left h1] at hg
    have := p.ahead g (List.mem_of_getElem? hg)
    refine ⟨⟨fun _ => h1, fun _ => (cmp_lt _ _).2 this⟩, ⟨fun e => absurd ((cmp_eq0 _ _).1 e) (lt_ne this), fun e => by omega⟩⟩
  · rw [List.getElem?_append_right (by omega)] at hg
    rcases p.mid with hM | ⟨m, hM⟩
    · rw [hM] at hg
      have hb := p.behind g (List.mem_of_getElem? (by simpa using hg))
      refine ⟨⟨fun e => ?_, fun e => absurd e h1⟩, ⟨fun e => absurd ((cmp_eq0 _ _).1 e).symm (lt_ne hb), fun e => absurd hM e.2⟩⟩
      have := (cmp_lt _ _).1 e
      rw [lt_asymm hb] at this
      cases this
    · rw [hM] at hg ⊢
      by_cases h2 : h = A.length
      · subst h2
        simp at hg
        subst hg
        have e0 : cmpB u u = 0 := (cmp_eq0 _ _).2 rfl
        simp [e0]
      · obtain ⟨k, hk⟩ : ∃ k, h - A.length = k + 1 := ⟨h - A.length - 1, by omega⟩
        rw [hk] at hg
        have hb := p.behind g (List.mem_of_getElem? (by simpa using hg))
        refine ⟨⟨fun e => ?_, fun e => absurd e h1⟩, ⟨fun e => absurd ((cmp_eq0 _ _).1 e).symm (lt_ne hb), fun e => absurd e.1 h2⟩⟩
        have := (cmp_lt _ _).1 e
        rw [lt_asymm hb] at this
        cases this

set_option maxHeartbeats 4000000 in
theorem search_any (w : World) (a : Option Addr) (cap : Nat) (l A M B : List Gr) (u : ByteArray) (p : Parts l u A M B) (hG : GAt w a l) (hl : l.length ≤ 1000) :
    Calls Try.prog 23 #[.slice a l.length cap, .string u, .func (.func 24) #[] #[]] w fun e w' => e = .returned (.tuple #[.int .i64 (A.length : Nat), .bool (!M.isEmpty)]) ∧ Below w.heap.size w w' := by
  have hlen := p.len
  obtain ⟨n, hn⟩ : ∃ n, l.length = n := ⟨_, rfl⟩
  obtain ⟨c, hc⟩ : ∃ c, A.length = c := ⟨_, rfl⟩
  obtain ⟨b, hb⟩ : ∃ b, (!M.isEmpty) = b := ⟨_, rfl⟩
  have hcmp : ∀ (h : Nat) (g : Gr), l[h]? = some g → (cmpB g.u u < 0 ↔ h < c) ∧ (cmpB g.u u = 0 ↔ (h = c ∧ b = true)) := by
    intro h g hg
    have := p.cmp hg
    rw [hc] at this
    refine ⟨this.1, this.2.trans ?_⟩
    rw [← hb]
    cases M <;> simp
  have hcn : c ≤ n := by omega
  have hbn : b = true → c < n := by
    intro h
    rw [← hb] at h
    cases M with
    | nil => simp at h
    | cons x y => simp at hlen; omega
  rw [hn, hc, hb]
  rw [hn] at hl
  clear p hb hc hlen
  go_enter Try.func23, Try.ntmps23
  go_wp2
  go_loopg [9, 10] n (fun kx s9 s10 wr => ∃ lo hi : Nat, s9 = .int .i64 lo ∧ s10 = .int .i64 hi ∧ lo ≤ c ∧ c ≤ hi ∧ hi ≤ n ∧ hi - lo ≤ kx ∧ Below w.heap.size w wr)
  case atStart => exact ⟨0, n, rfl, rfl, Nat.zero_le _, hcn, Nat.le_refl _, by omega, Below.refl _ _⟩
  case round =>
    obtain ⟨lo, hi, rfl, rfl, hlo, hhi, hin, hg, hB⟩ := hrel
    by_cases hlt : lo < hi
    · obtain ⟨y, hy⟩ : ∃ y, l[(lo + hi) / 2]? = some y := ⟨_, List.getElem?_eq_getElem (by omega)⟩
      obtain ⟨x, rfl, c0, c1⟩ := (hG.below hB) _ _ hy
      have hcy := hcmp _ _ hy
      by_cases hyx : cmpB y.u u < 0
      · have hlt2 := hcy.1.1 hyx
        go_wp2_with (go_at_call 24; refine (cmp_any y u _).mono ?_; rintro e w' ⟨rfl, hBw⟩)
        go_roundg (hi - ((lo + hi) / 2 + 1))
        case measure => omega
        case rel => exact ⟨(lo + hi) / 2 + 1, hi, by rw [show ((lo : Int) + (hi : Int)) / 2 + 1 = (((lo + hi) / 2 + 1 : Nat) : Int) by omega], rfl, by omega, hhi, hin, Nat.le_refl _, Below.then hB hBw⟩
      · have hge : c ≤ (lo + hi) / 2 := Nat.le_of_not_lt fun h => hyx (hcy.1.2 h)
        go_wp2_with (go_at_call 24; refine (cmp_any y u _).mono ?_; rintro e w' ⟨rfl, hBw⟩)
        go_roundg ((lo + hi) / 2 - lo)
        case measure => omega
        case rel => exact ⟨lo, (lo + hi) / 2, rfl, by rw [show ((lo : Int) + (hi : Int)) / 2 = (((lo + hi) / 2 : Nat) : Int) by omega], hlo, hge, by omega, Nat.le_refl _, Below.then hB hBw⟩
    · obtain rfl : lo = c := by omega
      by_cases hln : lo < n
      · obtain ⟨y, hy⟩ : ∃ y, l[lo]? = some y := ⟨_, List.getElem?_eq_getElem (by omega)⟩
        obtain ⟨x, rfl, c0, c1⟩ := (hG.below hB) _ _ hy
        have hcy := (hcmp _ _ hy).2
        by_cases hyx : cmpB y.u u = 0
        · obtain rfl : b = true := (hcy.1 hyx).2
          go_wp2_with (go_at_call 24; refine (cmp_any y u _).mono ?_; rintro e w' ⟨rfl, hBw⟩)
          go_ret2
          exact ⟨by simp, Below.then hB hBw⟩
        · obtain rfl : b = false := by
            cases b
            · rfl
            · exact absurd (hcy.2 ⟨rfl, rfl⟩) hyx
          go_wp2_with (go_at_call 24; refine (cmp_any y u _).mono ?_; rintro e w' ⟨rfl, hBw⟩)
          go_ret2
          exact ⟨by simp [hyx], Below.then hB hBw⟩
      · obtain rfl : b = false := by
          cases b
          · rfl
          · exact absurd (hbn rfl) hln
        go_wp2
        go_ret2
        exact ⟨rfl, hB⟩

set_option maxHeartbeats 1000000 in
theorem find_any (w : World) (a : Option Addr) (cap : Nat) (l A M B : List Gr) (u : ByteArray) (p : Parts l u A M B) (hG : GAt w a l) (hl : l.length ≤ 1000) :
    Calls Try.prog 19 #[.slice a l.length cap, .string u] w fun e w' => e = .returned (.tuple #[.int .i64 (A.length : Nat), .bool (!M.isEmpty)]) ∧ Below w.heap.size w w' := by
  have h := search_any w a cap l A M B u p hG hl
  go_enter Try.func19, Try.ntmps19
  go_wp2_with (go_at_call 23; refine h.mono ?_; rintro e w' ⟨rfl, hB⟩)
  go_ret2
  exact ⟨rfl, hB⟩
end Go.Proofs.Ytbbmeclngopbmaa

/-! MODES: acl.Modes, and the document's own. -/
namespace Go.Proofs.Ytbbmeclngopbmaa
open Go.RowKit
set_option maxRecDepth 8000

theorem GAt.mid {w : World} {a : Option Addr} {l A M B : List Gr} {u : ByteArray} (h : GAt w a l) (p : Parts l u A M B) {m : Int} (hM : M = [⟨u, m⟩]) : ∃ x, a = some x ∧ w.cell? ⟨(x.add (A.length * 2)).block, (x.add (A.length * 2)).off + 1, none⟩ = some (.int .i64 m) ∧ A.length < l.length := by
  have hg : l[A.length]? = some ⟨u, m⟩ := by
    rw [p.eq, hM, List.getElem?_append_right (Nat.le_refl _)]
    simp
  obtain ⟨x, hx, _, h1⟩ := h _ _ hg
  exact ⟨x, hx, h1, (List.getElem?_eq_some_iff.1 hg).1⟩

set_option maxHeartbeats 2000000 in
theorem modes_any (w : World) (a : Option Addr) (cap : Nat) (l : List Gr) (u : ByteArray) (hs : Sorted l) (hG : GAt w a l) (hl : l.length ≤ 1000) :
    Calls Try.prog 11 #[.slice a l.length cap, .string u] w fun e w' => e = .returned (.int .i64 (modesL l u)) ∧ Below w.heap.size w w' := by
  obtain ⟨A, M, B, p⟩ := parts_of l u hs
  have hf := find_any w a cap l A M B u p hG hl
  rcases p.mid with hM | ⟨m, hM⟩
  · have e1 : (!M.isEmpty) = false := by rw [hM]; rfl
    rw [e1] at hf
    obtain ⟨A', M', B', p'⟩ := parts_of l star hs
    have hm : modesL l u = (look M' star).getD 0 := by
      unfold modesL
      rw [p.look, hM, p'.look]
      rfl
    rw [hm]
    clear hm
    have hf2 := fun w1 (hB : Below w.heap.size w w1) => find_any w1 a cap l A' M' B' star p' (hG.below hB) hl
    generalize A.length = c at hf
    rcases p'.mid with hM' | ⟨m', hM'⟩
    · have e2 : (!M'.isEmpty) = false := by rw [hM']; rfl
      have e3 : (look M' star).getD 0 = 0 := by rw [hM']; rfl
      rw [e3]
      simp only [e2] at hf2
      generalize A'.length = c' at hf2
      obtain ⟨n, hn⟩ : ∃ n, l.length = n := ⟨_, rfl⟩
      rw [hn] at hf hf2 hl ⊢
      go_enter Try.func11, Try.ntmps11
      go_wp2_with fail
      refine hf.mono ?_
      rintro e w1 ⟨rfl, hB1⟩
      go_wp2_with fail
      refine (hf2 _ hB1).mono ?_
      rintro e w2 ⟨rfl, hB2⟩
      go_wp2_with fail
      go_ret
      exact ⟨rfl, Below.then hB1 hB2⟩
    · have e2 : (!M'.isEmpty) = true := by rw [hM']; rfl
      have e3 : (look M' star).getD 0 = m' := by rw [hM', look_one]; rfl
      rw [e3]
      simp only [e2] at hf2
      have hmid := fun w1 (hB : Below w.heap.size w w1) => (hG.below hB).mid p' hM'
      generalize A'.length = c' at hf2 hmid
      obtain ⟨n, hn⟩ : ∃ n, l.length = n := ⟨_, rfl⟩
      rw [hn] at hf hf2 hmid hl ⊢
      go_enter Try.func11, Try.ntmps11
      go_wp2_with fail
      refine hf.mono ?_
      rintro e w1 ⟨rfl, hB1⟩
      go_wp2_with fail
      refine (hf2 _ hB1).mono ?_
      rintro e w2 ⟨rfl, hB2⟩
      obtain ⟨x, rfl, c1, hlt⟩ := hmid _ (Below.then hB1 hB2)
      go_wp2_with fail
      go_ret
      exact ⟨rfl, Below.then hB1 hB2⟩
  · have e1 : (!M.isEmpty) = true := by rw [hM]; rfl
    rw [e1] at hf
    have hm : modesL l u = m := by
      unfold modesL
      rw [p.look, hM, look_one]
      rfl
    rw [hm]
    clear hm
    have hmid := fun w1 (hB : Below w.heap.size w w1) => (hG.below hB).mid p hM
    generalize A.length = c at hf hmid
    obtain ⟨n, hn⟩ : ∃ n, l.length = n := ⟨_, rfl⟩
    rw [hn] at hf hmid hl ⊢
    go_enter Try.func11, Try.ntmps11
    go_wp2_with fail
    refine hf.mono ?_
    rintro e w1 ⟨rfl, hB1⟩
    obtain ⟨x, rfl, c1, hlt⟩ := hmid _ hB1
    go_wp2_with fail
    go_ret
    exact ⟨rfl, hB1⟩

/-- The document's way. -/
def rmod (u : ByteArray) (a : Int) : List Gr → Int
  | [] => a
  | g :: r => if eqs g.u star = true then rmod u g.m r else if eqs g.u u = true then g.m else rmod u a r
theorem rmod_eq (u : ByteArray) : ∀ (l : List Gr) (a : Int), Sorted l → rmod u a l = if eqs u star = true then (look l star).getD a else (look l u).getD ((look l star).getD a)
  | [], a, _ => by simp [rmod, look]
  | g :: r, a, hs => by
    have hp := List.pairwise_cons.1 hs
    have hno : look r g.u = none := look_none fun x hx => (lt_ne (hp.1 x hx)).symm
    rw [rmod, look_cons, look_cons]
    cases h1 : eqs g.u star
    · simp only [Bool.false_eq_true, if_false]
      cases h2 : eqs g.u u
      · simp only [Bool.false_eq_true, if_false]
        exact rmod_eq u r a hp.2
      · have hus : eqs u star = false := by rw [← eqs_iff.1 h2]; exact h1
        simp [hus]
    · simp only [if_true]
      have e := eqs_iff.1 h1
      rw [e] at hno
      rw [rmod_eq u r g.m hp.2, hno]
      cases h2 : eqs u star
      · have hne : eqs g.u u = false := by
          rw [e]
          refine eqs_ne fun k => ?_
          rw [← k, eqs_self] at h2
          cases h2
        simp [hne]
      · simp
theorem rmod_modes {l : List Gr} (hs : Sorted l) (u : ByteArray) : rmod u 0 l = modesL l u := by
  rw [rmod_eq u l 0 hs]
  unfold modesL
  cases h : eqs u star
  · simp
  · rw [eqs_iff.1 h]
    simp
    cases look l star <;> rfl
theorem star_b {u : ByteArray} {b : Bool} (h : eqs u star = b) : (u.toList == [42]) = b := by
  have : star.toList = [42] := by rw [toL]; rfl
  unfold eqs at h
  rw [this] at h
  exact h
theorem str_b {a b : ByteArray} {x : Bool} (h : eqs a b = x) : (a.toList == b.toList) = x := h

set_option maxHeartbeats 2000000 in
theorem rmodes_any (w : World) (a : Option Addr) (cap : Nat) (l : List Gr) (u : ByteArray) (hs : Sorted l) (hG : GAt w a l) (hl : l.length ≤ 1000) :
    Calls Try.prog 12 #[.slice a l.length cap, .string u] w fun e w' => e = .returned (.int .i64 (modesL l u)) ∧ w' = w := by
  obtain ⟨n, hn⟩ : ∃ n, l.length = n := ⟨_, rfl⟩
  obtain ⟨r, hr⟩ : ∃ r, modesL l u = r := ⟨_, rfl⟩
  have hr0 : Aside (r = rmod u 0 (l.drop 0)) := by rw [Aside, ← hr]; exact (rmod_modes hs u).symm
  rw [hr, hn]
  rw [hn] at hl
  clear hr hs
  go_enter Try.func12, Try.ntmps12
  go_wp2_with fail
  go_loopw [5, 6] (fun s t wr => ∃ (i : Nat) (al : Int), i ≤ n ∧ t = .int .i64 (i : Int) ∧ s = .int .i64 al ∧ wr = w ∧ Aside (r = rmod u al (l.drop i))) (fun _ t _ => n - (Go.RowKit.intOf t).toNat)
  case atStart => exact ⟨0, 0, by omega, rfl, rfl, rfl, hr0⟩
  case round =>
    obtain ⟨i, al, hi, rfl, rfl, rfl, hall⟩ := hrel
    by_cases hlt : i < n
    · obtain ⟨g, hg⟩ : ∃ g, l[i]? = some g := ⟨_, List.getElem?_eq_getElem (by omega)⟩
      obtain ⟨x, rfl, c0, c1⟩ := hG _ _ hg
      have hd : l.drop i = g :: l.drop (i + 1) := by
        have h := List.getElem?_eq_some_iff.1 hg
        rw [List.drop_eq_getElem_cons h.1, h.2]
      rw [hd, rmod] at hall
      clear hd hr0
      cases h1 : eqs g.u star
      · cases h2 : eqs g.u u
        · have hn2 : Aside (r = rmod u al (l.drop (i + 1))) := by rw [h1, h2] at hall; simpa using hall
          have k1 := star_b h1
          have k2 := str_b h2
          clear hall
          go_wp2_with fail
          exact ⟨⟨i + 1, al, by omega, by simp, rfl, trivial, hn2⟩, by simp [Go.RowKit.intOf]; omega⟩
        · obtain rfl : r = g.m := by rw [hall.out, h1, h2]; simp
          have k1 := star_b h1
          have k2 := str_b h2
          clear hall
          go_wp2_with fail
          go_ret
          exact ⟨rfl, rfl⟩
      · have hn2 : Aside (r = rmod u g.m (l.drop (i + 1))) := by rw [h1] at hall; simpa using hall
        have k1 := star_b h1
        clear hall
        go_wp2_with fail
        exact ⟨⟨i + 1, g.m, by omega, by simp, rfl, trivial, hn2⟩, by simp [Go.RowKit.intOf]; omega⟩
    · obtain rfl : r = al := by rw [hall.out, List.drop_eq_nil_of_le (by omega)]; rfl
      clear hall hr0
      go_wp2_with fail
      go_ret
      exact ⟨rfl, rfl⟩
end Go.Proofs.Ytbbmeclngopbmaa

/-! ROWS OF GRANTS: cells, copy, make, append; acl.between. -/
namespace Go.Proofs.Ytbbmeclngopbmaa
open Go.RowKit
set_option maxRecDepth 8000
set_option linter.unusedSimpArgs false

/-- The cells of a list. -/
def cellsG : List Gr → List Value
  | [] => []
  | g :: r => .string g.u :: .int .i64 g.m :: cellsG r
theorem cellsG_len : ∀ l : List Gr, (cellsG l).length = l.length * 2
  | [] => rfl
  | g :: r => by simp only [cellsG, List.length_cons, cellsG_len r]; omega
theorem cellsG_append : ∀ (a b : List Gr), cellsG (a ++ b) = cellsG a ++ cellsG b
  | [], b => rfl
  | g :: r, b => by simp only [List.cons_append, cellsG, cellsG_append r b]
theorem cellsG_get : ∀ (l : List Gr) (j : Nat) (g : Gr), l[j]? = some g → (cellsG l)[j * 2]? = some (.string g.u) ∧ (cellsG l)[j * 2 + 1]? = some (.int .i64 g.m)
  | [], j, g, h => by simp at h
  | c :: r, 0, g, h => by simp at h; subst h; exact ⟨rfl, rfl⟩
  | c :: r, j + 1, g, h => by
    have := cellsG_get r j g (by simpa using h)
    rw [show (j + 1) * 2 = j * 2 + 2 by omega]
    simpa [cellsG] using this
theorem cellsG_one (l : List Gr) : ∀ u ∈ cellsG l, u.oneCell' = true := by
  induction l with
  | nil => intro u hu; cases hu
  | cons c r ih =>
    intro u hu
    simp only [cellsG, List.mem_cons] at hu
    rcases hu with rfl | rfl | hu
    · rfl
    · rfl
    · exact ih u hu
theorem add_next (x : Addr) (k : Nat) : x.add (k + 1) = ⟨(x.add k).block, (x.add k).off + 1, none⟩ := by
  unfold Addr.add
  by_cases h : k = 0 <;> simp [h, Nat.add_assoc]
/-- As cells. -/
theorem GAt.cells {w : World} {x : Addr} {l : List Gr} (h : GAt w (some x) l) : ∀ j v, (cellsG l)[j]? = some v → w.cell? (x.add j) = some v := by
  intro j v hv
  have hj : j < l.length * 2 := by rw [← cellsG_len]; exact (List.getElem?_eq_some_iff.1 hv).1
  obtain ⟨g, hg⟩ : ∃ g, l[j / 2]? = some g := ⟨_, List.getElem?_eq_getElem (by omega)⟩
  obtain ⟨x', hx, h1, h2⟩ := h _ _ hg
  obtain rfl : x = x' := by simpa using hx
  obtain ⟨k1, k2⟩ := cellsG_get l _ _ hg
  rcases Nat.mod_two_eq_zero_or_one j with hm | hm
  · rw [show j / 2 * 2 = j by omega] at h1 k1
    rw [hv] at k1
    rw [h1, ← k1]
  · rw [show j / 2 * 2 + 1 = j by omega] at k2
    rw [hv] at k2
    rw [← add_next, show j / 2 * 2 + 1 = j by omega] at h2
    rw [h2, ← k2]
theorem gat_of {w : World} {x : Addr} {l : List Gr} (h : ∀ j v, (cellsG l)[j]? = some v → w.cell? (x.add j) = some v) : GAt w (some x) l := by
  intro j g hg
  obtain ⟨k1, k2⟩ := cellsG_get l _ _ hg
  refine ⟨x, rfl, h _ _ k1, ?_⟩
  rw [← add_next]
  exact h _ _ k2
theorem GAt.left {w : World} {a : Option Addr} {A R : List Gr} (h : GAt w a (A ++ R)) : GAt w a A := by
  intro j g hg
  exact h j g (by rw [List.getElem?_append_left (List.getElem?_eq_some_iff.1 hg).1]; exact hg)
theorem GAt.right {w : World} {x : Addr} {A R : List Gr} (h : GAt w (some x) (A ++ R)) : GAt w (some (x.add (A.length * 2))) R := by
  refine gat_of fun j v hv => ?_
  rw [Go.Deep.add_add]
  refine h.cells _ _ ?_
  rw [cellsG_append, List.getElem?_append_right (by rw [cellsG_len]; omega), cellsG_len]
  rw [show A.length * 2 + j - A.length * 2 = j by omega]
  exact hv
theorem gat_nil (w : World) (a : Option Addr) : GAt w a [] := fun j g h => by simp at h
/-- A row that holds a list. -/
theorem gat_row {w : World} {g : Nat} {cur : Array Value} {t : TypeId} {fr : Nat × Nat} (hb : w.heap[g]? = some (.cells cur t fr)) (l : List Gr) (hc : ∀ j, j < l.length * 2 → cur[j]? = (cellsG l)[j]?) : GAt w (some ⟨g, 0, none⟩) l := by
  refine gat_of fun j v hv => ?_
  have hj : j < l.length * 2 := by rw [← cellsG_len]; exact (List.getElem?_eq_some_iff.1 hv).1
  rw [Addr.add_mid]
  rw [← hv, ← hc j hj]
  simp [World.cell?, hb]

/-- copy. -/
theorem copy_gr (w : World) (g o dLen dCap : Nat) (cur : Array Value) (a : Option Addr) (R : List Gr) (cap : Nat) (hg : w.heap[g]? = some (.cells cur 40 (0, 0))) (hle : R.length ≤ dLen) (hfit : o + R.length * 2 ≤ cur.size) (hG : GAt w a R) :
    (Builtin.copy_ #[22, 22] 3 #[.slice (some ⟨g, o, none⟩) dLen dCap, .slice a R.length cap]).run Try.prog w = .ok (.int .i64 (R.length : Int)) (w.setRow g (cur.toList.take o ++ cellsG R ++ cur.toList.drop (o + R.length * 2)).toArray) := by
  have hst := run_storeCells_at Try.prog g o 40 (cellsG R) 0 cur w hg (by rw [cellsG_len]; simpa using hfit) (cellsG_one R)
  rw [cellsG_len] at hst
  simp only [Nat.add_zero] at hst
  have hmin : Nat.min R.length dLen = R.length := Nat.min_eq_left hle
  obtain ⟨i, hi, hsz⟩ : ∃ i, Try.prog.info? 40 = some i ∧ i.size = 2 := by
    have : (Try.prog.info? 40).map (·.size) = some 2 := by kernel_rfl
    cases h : Try.prog.info? 40 with
    | none => rw [h] at this; cases this
    | some i => rw [h] at this; exact ⟨i, rfl, by simpa using this⟩
  cases a with
  | some x =>
    have hl := run_loadCells_list (P := Try.prog) w x (cellsG R) hG.cells
    rw [cellsG_len] at hl
    simp [Builtin.copy_, run_underlying Try.underlying22, Builtin.lenOf, Builtin.firstCells, sizeOf, typeInfo, hi, hsz, hmin, hl, hst, goInt]
  | none =>
    have hR : R = [] := by
      cases R with
      | nil => rfl
      | cons y r => obtain ⟨x, hx, _⟩ := hG 0 y rfl; cases hx
    subst hR
    simp only [cellsG] at hst
    simp [Builtin.copy_, run_underlying Try.underlying22, Builtin.lenOf, Builtin.firstCells, sizeOf, typeInfo, hi, goInt, cellsG] at hst ⊢
    simp [hst]

theorem info_gr : (Try.prog.info? 40).map (fun i => (i.zero, i.size, i.bytes)) = some (some (.agg #[.string ⟨#[]⟩, .int .i64 0]), 2, 24) := by kernel_rfl
theorem info_grs : ∃ i, Try.prog.info? 40 = some i ∧ i.zero = some (.agg #[.string ⟨#[]⟩, .int .i64 0]) ∧ i.size = 2 ∧ i.bytes = 24 := by
  have := info_gr
  cases h : Try.prog.info? 40 with
  | none => rw [h] at this; cases this
  | some i =>
    rw [h] at this
    have hq : (i.zero, i.size, i.bytes) = (some (.agg #[.string ⟨#[]⟩, .int .i64 0]), 2, 24) := by simpa using this
    exact ⟨i, rfl, congrArg Prod.fst hq, congrArg (fun p => p.2.1) hq, congrArg (fun p => p.2.2) hq⟩
/-- make. -/
theorem make_gr (w : World) (n : Nat) (hn : n ≤ 1000) : ∃ cur : Array Value, cur.size = n * 2 ∧ (Instr.makeSlice 22 (.int .i64 (n : Int)) (.int .i64 (n : Int))).run Try.prog w = .ok (.slice (some ⟨w.heap.size, 0, none⟩) n n) (w.alloc (.cells cur 40)) := by
  obtain ⟨i, hi, hz, hs, hb⟩ := info_grs
  have h := run_make (P := Try.prog) w 22 40 i _ Try.underlying22 hi hz .i64 .i64 n n (by omega) (by omega) (by rw [hb]; omega) (by omega)
  refine ⟨_, ?_, h⟩
  rw [hs]
  simp [madeCells]

theorem copy_step (w : World) (g o dLen dCap : Nat) (X Z : List Value) (a : Option Addr) (R : List Gr) (cap : Nat) (ho : X.length = o) (hg : w.heap[g]? = some (.cells (X ++ Z).toArray 40 (0, 0))) (hle : R.length ≤ dLen) (hfit : R.length * 2 ≤ Z.length) (hG : GAt w a R) :
    ∃ W' Z', (Builtin.copy_ #[22, 22] 3 #[.slice (some ⟨g, o, none⟩) dLen dCap, .slice a R.length cap]).run Try.prog w = .ok (.int .i64 (R.length : Int)) W' ∧ W'.heap[g]? = some (.cells ((X ++ cellsG R) ++ Z').toArray 40 (0, 0)) ∧ Z'.length + R.length * 2 = Z.length ∧ ∀ B, B ≤ g → Below B w W' := by
  refine ⟨_, Z.drop (R.length * 2), copy_gr w g o dLen dCap _ a R cap hg hle (by simp; omega) hG, ?_, by simp; omega, fun B hB => below_setRow (Below.refl _ _) hB _⟩
  rw [setRow_heap w g _ _ _ _ hg]
  congr 3
  subst ho
  simp [List.drop_append]

theorem copy_nothing (w : World) (d : Option Addr) (dLen dCap : Nat) (a : Option Addr) (cap : Nat) :
    (Builtin.copy_ #[22, 22] 3 #[.slice d dLen dCap, .slice a 0 cap]).run Try.prog w = .ok (.int .i64 0) w := by
  obtain ⟨i, hi, hz, hsz, hb⟩ := info_grs
  have hl : ∀ (x : Addr), (loadCells x 0).run Try.prog w = .ok #[] w := fun x => by simpa using run_loadCells_list (P := Try.prog) w x [] (by simp)
  cases d <;> cases a <;> simp [Builtin.copy_, run_underlying Try.underlying22, Builtin.lenOf, Builtin.firstCells, sizeOf, typeInfo, hi, storeCells, hl, goInt]

set_option maxHeartbeats 2000000 in
theorem between3 (w : World) (a1 a2 a3 : Option Addr) (c1 c2 c3 : Nat) (A M B : List Gr) (hA : GAt w a1 A) (hM : GAt w a2 M) (hB : GAt w a3 B) (hl : A.length + M.length + B.length ≤ 1000) (h0 : B ≠ []) :
    Calls Try.prog 20 #[.slice a1 A.length c1, .slice a2 M.length c2, .slice a3 B.length c3] w fun e w' => ∃ g, e = .returned (.slice (some ⟨g, 0, none⟩) (A ++ (M ++ B)).length (A ++ (M ++ B)).length) ∧ w'.heap[g]? = some (.cells (cellsG (A ++ (M ++ B))).toArray 40 (0, 0)) ∧ w.heap.size ≤ g ∧ Below w.heap.size w w' := by
  obtain ⟨n1, h1⟩ : ∃ n, A.length = n := ⟨_, rfl⟩
  obtain ⟨n2, h2⟩ : ∃ n, M.length = n := ⟨_, rfl⟩
  obtain ⟨n3, h3⟩ : ∃ n, B.length = n := ⟨_, rfl⟩
  have hlen : (A ++ (M ++ B)).length = n1 + n2 + n3 := by simp; omega
  simp only [h1, h2, h3] at hl
  have hpos : 0 < n3 := by rw [← h3]; exact List.length_pos_iff.2 h0
  obtain ⟨cur, hcur, hmk⟩ := make_gr w (n1 + n2 + n3) (by omega)
  have hb0 := alloc_below w (.cells cur 40)
  obtain ⟨g, hgw⟩ : ∃ g, w.heap.size = g := ⟨_, rfl⟩
  have hr0 : (w.alloc (.cells cur 40)).heap[g]? = some (.cells ([] ++ cur.toList).toArray 40 (0, 0)) := by
    rw [← hgw, heap_alloc_new w _]; simp
  generalize w.alloc (.cells cur 40) = W0 at hmk hb0 hr0
  obtain ⟨W1, Z1, hc1, hr1, hz1, hb1⟩ := copy_step W0 g 0 (n1 + n2 + n3) (n1 + n2 + n3) [] cur.toList a1 A c1 rfl hr0 (by omega) (by simp; omega) (hA.below hb0)
  have hB1 := hb0.trans (hb1 w.heap.size (by omega))
  obtain ⟨W2, Z2, hc2, hr2, hz2, hb2⟩ := copy_step W1 g (n1 * 2) (n1 + n2 + n3 - n1) (n1 + n2 + n3 - n1) ([] ++ cellsG A) Z1 a2 M c2 (by simp [cellsG_len, h1]) hr1 (by omega) (by simp at hz1; omega) (hM.below hB1)
  have hB2 := hB1.trans (hb2 w.heap.size (by omega))
  obtain ⟨W3, Z3, hc3, hr3, hz3, hb3⟩ := copy_step W2 g ((n1 + n2) * 2) n3 n3 ([] ++ cellsG A ++ cellsG M) Z2 a3 B c3 (by simp [cellsG_len, h1, h2]; omega) hr2 (by omega) (by simp at hz1; omega) (hB.below hB2)
  have hB3 := hB2.trans (hb3 w.heap.size (by omega))
  have hz : Z3 = [] := by
    cases Z3 with
    | nil => rfl
    | cons x r => simp at hz1 hz3; omega
  rw [hz] at hr3
  have hr : W3.heap[g]? = some (.cells (cellsG (A ++ (M ++ B))).toArray 40 (0, 0)) := by
    rw [hr3, cellsG_append, cellsG_append]; simp [cellsG]
  rw [h1] at hc1
  rw [h2] at hc2
  rw [h3] at hc3
  clear hr0 hr1 hz1 hb1 hr2 hz2 hb2 hr3 hz3 hb3 hb0 hz
  rw [hlen, h1, h2, h3]
  rw [hgw] at hmk
  push_cast at hmk
  go_enter Try.func20, Try.ntmps20
  go_wp2_with fail
  go_ret
  exact ⟨g, rfl, hr, by omega, hB3⟩
set_option maxHeartbeats 2000000 in
theorem between2 (w : World) (a1 a2 a3 : Option Addr) (c1 c2 c3 : Nat) (A M B : List Gr) (hA : GAt w a1 A) (hM : GAt w a2 M) (hB : GAt w a3 B) (hl : A.length + M.length + B.length ≤ 1000) (hB0 : B = []) (h0 : M ≠ []) :
    Calls Try.prog 20 #[.slice a1 A.length c1, .slice a2 M.length c2, .slice a3 B.length c3] w fun e w' => ∃ g, e = .returned (.slice (some ⟨g, 0, none⟩) (A ++ (M ++ B)).length (A ++ (M ++ B)).length) ∧ w'.heap[g]? = some (.cells (cellsG (A ++ (M ++ B))).toArray 40 (0, 0)) ∧ w.heap.size ≤ g ∧ Below w.heap.size w w' := by
  obtain ⟨n1, h1⟩ : ∃ n, A.length = n := ⟨_, rfl⟩
  obtain ⟨n2, h2⟩ : ∃ n, M.length = n := ⟨_, rfl⟩
  subst hB0
  have hlen : (A ++ (M ++ [])).length = n1 + n2 := by simp; omega
  simp only [h1, h2, List.length_nil, Nat.add_zero] at hl
  have hpos : 0 < n2 := by rw [← h2]; exact List.length_pos_iff.2 h0
  obtain ⟨cur, hcur, hmk⟩ := make_gr w (n1 + n2) (by omega)
  have hb0 := alloc_below w (.cells cur 40)
  obtain ⟨g, hgw⟩ : ∃ g, w.heap.size = g := ⟨_, rfl⟩
  have hr0 : (w.alloc (.cells cur 40)).heap[g]? = some (.cells ([] ++ cur.toList).toArray 40 (0, 0)) := by
    rw [← hgw, heap_alloc_new w _]; simp
  generalize w.alloc (.cells cur 40) = W0 at hmk hb0 hr0
  obtain ⟨W1, Z1, hc1, hr1, hz1, hb1⟩ := copy_step W0 g 0 (n1 + n2) (n1 + n2) [] cur.toList a1 A c1 rfl hr0 (by omega) (by simp; omega) (hA.below hb0)
  have hB1 := hb0.trans (hb1 w.heap.size (by omega))
  obtain ⟨W2, Z2, hc2, hr2, hz2, hb2⟩ := copy_step W1 g (n1 * 2) (n2) (n2) ([] ++ cellsG A) Z1 a2 M c2 (by simp [cellsG_len, h1]) hr1 (by omega) (by simp at hz1; omega) (hM.below hB1)
  have hB2 := hB1.trans (hb2 w.heap.size (by omega))
  have hz : Z2 = [] := by
    cases Z2 with
    | nil => rfl
    | cons x r => simp at hz1 hz2; omega
  rw [hz] at hr2
  have hr : W2.heap[g]? = some (.cells (cellsG (A ++ (M ++ []))).toArray 40 (0, 0)) := by
    rw [hr2, cellsG_append, cellsG_append]; simp [cellsG]
  rw [h1] at hc1
  rw [h2] at hc2
  clear hr0 hr1 hz1 hb1 hr2 hz2 hb2 hb0 hz
  have hN := copy_nothing
  rw [hlen, h1, h2]
  simp only [List.length_nil]
  rw [hgw] at hmk
  push_cast at hmk
  go_enter Try.func20, Try.ntmps20
  go_wp2_with fail
  go_ret
  exact ⟨g, rfl, hr, by omega, hB2⟩
set_option maxHeartbeats 2000000 in
theorem between1 (w : World) (a1 a2 a3 : Option Addr) (c1 c2 c3 : Nat) (A M B : List Gr) (hA : GAt w a1 A) (hM : GAt w a2 M) (hB : GAt w a3 B) (hl : A.length + M.length + B.length ≤ 1000) (hB0 : B = []) (hM0 : M = []) :
    Calls Try.prog 20 #[.slice a1 A.length c1, .slice a2 M.length c2, .slice a3 B.length c3] w fun e w' => ∃ g, e = .returned (.slice (some ⟨g, 0, none⟩) (A ++ (M ++ B)).length (A ++ (M ++ B)).length) ∧ w'.heap[g]? = some (.cells (cellsG (A ++ (M ++ B))).toArray 40 (0, 0)) ∧ w.heap.size ≤ g ∧ Below w.heap.size w w' := by
  obtain ⟨n1, h1⟩ : ∃ n, A.length = n := ⟨_, rfl⟩
  subst hB0
  subst hM0
  have hlen : (A ++ ([] ++ [])).length = n1 := by simp; exact h1
  simp only [h1, List.length_nil, Nat.add_zero] at hl
  obtain ⟨cur, hcur, hmk⟩ := make_gr w (n1) (by omega)
  have hb0 := alloc_below w (.cells cur 40)
  obtain ⟨g, hgw⟩ : ∃ g, w.heap.size = g := ⟨_, rfl⟩
  have hr0 : (w.alloc (.cells cur 40)).heap[g]? = some (.cells ([] ++ cur.toList).toArray 40 (0, 0)) := by
    rw [← hgw, heap_alloc_new w _]; simp
  generalize w.alloc (.cells cur 40) = W0 at hmk hb0 hr0
  obtain ⟨W1, Z1, hc1, hr1, hz1, hb1⟩ := copy_step W0 g 0 (n1) (n1) [] cur.toList a1 A c1 rfl hr0 (by omega) (by simp; omega) (hA.below hb0)
  have hB1 := hb0.trans (hb1 w.heap.size (by omega))
  have hz : Z1 = [] := by
    cases Z1 with
    | nil => rfl
    | cons x r => simp at hz1 hz1; omega
  rw [hz] at hr1
  have hr : W1.heap[g]? = some (.cells (cellsG (A ++ ([] ++ []))).toArray 40 (0, 0)) := by
    rw [hr1, cellsG_append, cellsG_append]; simp [cellsG]
  rw [h1] at hc1
  clear hr0 hr1 hz1 hb1 hb0 hz
  have hN := copy_nothing
  rw [hlen, h1]
  simp only [List.length_nil]
  rw [hgw] at hmk
  push_cast at hmk
  go_enter Try.func20, Try.ntmps20
  go_wp2_with fail
  go_ret
  exact ⟨g, rfl, hr, by omega, hB1⟩
set_option maxHeartbeats 2000000 in
theorem between_any (w : World) (a1 a2 a3 : Option Addr) (c1 c2 c3 : Nat) (A M B : List Gr) (hA : GAt w a1 A) (hM : GAt w a2 M) (hB : GAt w a3 B) (hl : A.length + M.length + B.length ≤ 1000) :
    Calls Try.prog 20 #[.slice a1 A.length c1, .slice a2 M.length c2, .slice a3 B.length c3] w fun e w' => ∃ g, e = .returned (.slice (some ⟨g, 0, none⟩) (A ++ (M ++ B)).length (A ++ (M ++ B)).length) ∧ w'.heap[g]? = some (.cells (cellsG (A ++ (M ++ B))).toArray 40 (0, 0)) ∧ w.heap.size ≤ g ∧ Below w.heap.size w w' := by
  by_cases hB0 : B = []
  · by_cases hM0 : M = []
    · exact between1 w a1 a2 a3 c1 c2 c3 A M B hA hM hB hl hB0 hM0
    · exact between2 w a1 a2 a3 c1 c2 c3 A M B hA hM hB hl hB0 hM0
  · exact between3 w a1 a2 a3 c1 c2 c3 A M B hA hM hB hl hB0

/-- Where a part of a slice begins. -/
def sub (a : Option Addr) (l m : Nat) : Option Addr := if m = l then a else a.map (·.add (l * 2))
theorem slice_to (w : World) (a : Option Addr) (n cap c : Nat) (hc : c ≤ n) (hn : n ≤ cap) :
    (Instr.slice 22 (.slice a n cap) none (some (.int .i64 (c : Int))) none).run Try.prog w = .ok (.slice a c cap) w := by
  obtain ⟨i, hi, hz, hsz, hby⟩ := info_grs
  have h1 : c ≤ cap := by omega
  have ha : (if cap = 0 then a else Option.map (fun x => x.add 0) a) = a := by
    split
    · rfl
    · cases a <;> simp [Addr.add]
  simp [Instr.slice, run_underlying Try.underlying22, Instr.sliceBounds, Instr.sliceBound, asIntOf, sizeOf, typeInfo, hi, hsz, h1, ha]
theorem slice_from (w : World) (a : Option Addr) (n cap c : Nat) (hc : c ≤ n) :
    (Instr.slice 22 (.slice a n cap) (some (.int .i64 (c : Int))) none none).run Try.prog w = .ok (.slice (sub a c cap) (n - c) (cap - c)) w := by
  obtain ⟨i, hi, hz, hsz, hby⟩ := info_grs
  have h1 : c ≤ n := hc
  simp [Instr.slice, run_underlying Try.underlying22, Instr.sliceBounds, Instr.sliceBound, asIntOf, sizeOf, typeInfo, hi, hsz, h1, sub]
theorem GAt.sub {w : World} {a : Option Addr} {A R : List Gr} {cap : Nat} (h : GAt w a (A ++ R)) (hc : A.length + R.length ≤ cap) : GAt w (sub a A.length cap) R := by
  cases R with
  | nil => exact gat_nil _ _
  | cons y r =>
    have hy : (A ++ y :: r)[A.length]? = some y := by rw [List.getElem?_append_right (Nat.le_refl _)]; simp
    obtain ⟨x, rfl, _⟩ := h _ _ hy
    unfold Go.Proofs.Ytbbmeclngopbmaa.sub
    rw [if_neg (by simp at hc; omega)]
    exact h.right
theorem between_len (w : World) (a1 a2 a3 : Option Addr) (c1 c2 c3 n1 n2 n3 : Nat) (A M B : List Gr) (h1 : A.length = n1) (h2 : M.length = n2) (h3 : B.length = n3) (hA : GAt w a1 A) (hM : GAt w a2 M) (hB : GAt w a3 B) (hl : n1 + n2 + n3 ≤ 1000) :
    Calls Try.prog 20 #[.slice a1 n1 c1, .slice a2 n2 c2, .slice a3 n3 c3] w fun e w' => ∃ g, e = .returned (.slice (some ⟨g, 0, none⟩) (A ++ (M ++ B)).length (A ++ (M ++ B)).length) ∧ w'.heap[g]? = some (.cells (cellsG (A ++ (M ++ B))).toArray 40 (0, 0)) ∧ w.heap.size ≤ g ∧ Below w.heap.size w w' := by
  subst h1 h2 h3
  exact between_any w a1 a2 a3 c1 c2 c3 A M B hA hM hB hl
end Go.Proofs.Ytbbmeclngopbmaa

/-! THE LAWS' SMALL FUNCTIONS: known, within. -/
namespace Go.Proofs.Ytbbmeclngopbmaa
open Go.RowKit
set_option maxRecDepth 8000

def exL : List Gr := [⟨star, 1⟩, ⟨⟨#[97]⟩, 6⟩]
theorem lt_lits {a b : ByteArray} (h : Op.bytesLess a.data.toList b.data.toList = true) : lt a b = true := by unfold lt; rw [toL, toL]; exact h
theorem exL_sorted : Sorted exL := List.Pairwise.cons (fun x hx => by simp at hx; subst hx; exact lt_lits rfl) (List.pairwise_singleton _ _)
theorem exL_a : modesL exL ⟨#[97]⟩ = 6 := by
  unfold modesL look exL
  have e1 : eqs star ⟨#[97]⟩ = false := eqs_ne (by intro h; cases h)
  simp [e1, eqs_self]
theorem exL_b : modesL exL ⟨#[98]⟩ = 1 := by
  unfold modesL look exL
  have e1 : eqs star ⟨#[98]⟩ = false := eqs_ne (by intro h; cases h)
  have e2 : eqs ⟨#[97]⟩ ⟨#[98]⟩ = false := eqs_ne (by intro h; cases h)
  simp [e1, e2, eqs_self]

set_option maxHeartbeats 1000000 in
theorem known_any (w : World) : Calls Try.prog 8 #[] w fun e w' => e = .returned (.bool true) ∧ Below w.heap.size w w' := by
  have hG : GAt (w.alloc (.cells #[.string ⟨#[42]⟩, .int .i64 1, .string ⟨#[97]⟩, .int .i64 6] 40)) (some ⟨w.heap.size, 0, none⟩) exL := gat_row (heap_alloc_new w _) exL (fun j _ => by simp [cellsG, exL, star])
  have hB0 := alloc_below w (.cells #[.string ⟨#[42]⟩, .int .i64 1, .string ⟨#[97]⟩, .int .i64 6] 40)
  have h1 := fun W (hB : Below (w.alloc (.cells #[.string ⟨#[42]⟩, .int .i64 1, .string ⟨#[97]⟩, .int .i64 6] 40)).heap.size (w.alloc (.cells #[.string ⟨#[42]⟩, .int .i64 1, .string ⟨#[97]⟩, .int .i64 6] 40)) W) u => modes_any W _ 2 exL u exL_sorted (hG.below hB) (by decide)
  go_enter Try.func8, Try.ntmps8
  go_wp2_with fail
  generalize w.alloc (.cells #[.string ⟨#[42]⟩, .int .i64 1, .string ⟨#[97]⟩, .int .i64 6] 40) = W0 at hG hB0 h1 ⊢
  refine (h1 _ (Below.refl _ _) _).mono ?_
  rw [exL_a]
  rintro e w1 ⟨rfl, hB1⟩
  go_wp2_with fail
  refine (h1 _ hB1 _).mono ?_
  rw [exL_b]
  rintro e w2 ⟨rfl, hB2⟩
  go_wp2_with fail
  go_ret
  exact ⟨rfl, Below.then (Below.then hB0 hB1) hB2⟩

set_option maxHeartbeats 400000 in
theorem within_any (k m : Int) (h0 : 0 < m) (h1 : m < 1000000) (w : World) :
    Calls Try.prog 16 #[.int .i64 k, .int .i64 m] w fun e w' => e = .returned (.int .i64 (k % m)) ∧ w' = w := by
  have b1 := Int.lt_tmod_of_pos k h0
  have b2 := Int.tmod_lt_of_pos k h0
  have hm0 : ¬ m = 0 := by omega
  have hm1 : ¬ m = -1 := by omega
  by_cases hn : k.tmod m < 0
  · have e1 : k % m = k.tmod m + m := by
      rw [Int.tmod_eq_emod] at hn ⊢
      split at hn
      · have := Int.emod_nonneg k (by omega : m ≠ 0); omega
      · rename_i hc; rw [if_neg hc]; rw [Int.natAbs_of_nonneg (by omega)]; omega
    rw [e1]
    clear e1
    go_enter Try.func16, Try.ntmps16
    go_wp2
    go_ret
    exact ⟨rfl, rfl⟩
  · have e1 : k % m = k.tmod m := by
      rw [Int.tmod_eq_emod] at hn ⊢
      split
      · simp
      · rename_i hc
        rw [if_neg hc] at hn
        have := Int.emod_lt_of_pos k h0
        rw [Int.natAbs_of_nonneg (by omega)] at *
        omega
    rw [e1]
    clear e1
    go_enter Try.func16, Try.ntmps16
    go_wp2
    go_ret
    exact ⟨rfl, rfl⟩
end Go.Proofs.Ytbbmeclngopbmaa

/-! LISTS THAT CAME IN: slices of structs of a text and a number, as the walk is told of them; texts. -/
namespace Go.Proofs.Ytbbmeclngopbmaa
open Go.ChangeShapes Go.WideShapes Go.ChangeAt Go.RowKit
set_option maxRecDepth 8000

theorem pick_list {len : Nat} {p : Nat → Gr → Prop} (h : ∀ i, i < len → ∃ g, p i g) : ∃ l : List Gr, l.length = len ∧ ∀ j g, l[j]? = some g → p j g := by
  by_cases h0 : len = 0
  · subst h0
    exact ⟨[], rfl, fun j g q => by cases q⟩
  have h' : ∀ i, ∃ g, i < len → p i g := fun i => by
    by_cases hi : i < len
    · obtain ⟨g, hg⟩ := h i hi; exact ⟨g, fun _ => hg⟩
    · exact ⟨zGr, fun k => absurd k hi⟩
  obtain ⟨f, hf⟩ := Classical.axiomOfChoice h'
  refine ⟨(List.range len).map f, by simp, fun j g hg => ?_⟩
  have hj : j < len := by
    have := (List.getElem?_eq_some_iff.1 hg).1
    simpa using this
  simp [List.getElem?_range hj] at hg
  subst hg
  exact hf j hj
theorem open_two {H : Type} {enc : TypeId × Value → H} {W : World} {fuel : Nat} {a : Option Addr} {len cap : Nat} {x : DataW H × List MemPlace} {t e : TypeId} {f0 f1 : Field} (ht : Try.prog.underlying t = some (.slice e)) (he : Try.prog.underlying e = some (.struct #[f0, f1])) (ce : Try.prog.cellsOf e = 2) (h0 : f0.type = 9 ∧ f0.offset = 0) (h1 : f1.type = 3 ∧ f1.offset = 1) (h : DataW.trod enc Try.prog W 0 (fun _ => true) true fuel t [.slice a len cap] = some x) :
    ∃ l : List Gr, l.length = len ∧ GAt W a l ∧ (∀ g ∈ l, g.u.size ≤ 9223372036854775807 ∧ (Lit.int .i64 g.m).wf = true) ∧ len ≤ maxLen := by
  rcases Go.Deep.open_slice ht h with ⟨hcs, _⟩ | ⟨ad, l, c, m, n, Dd, Pl, hcs, _, hl, hm, hmm, _, hx⟩
  · simp at hcs
    obtain ⟨rfl, rfl, _⟩ := hcs
    exact ⟨[], rfl, fun j g hg => by simp at hg, by simp, by simp [maxLen]⟩
  · simp at hcs
    obtain ⟨rfl, rfl, rfl⟩ := hcs
    simp only [if_true] at hmm
    have each : ∀ i, i < len → ∃ g : Gr, W.cell? (ad.add (i * 2)) = some (.string g.u) ∧ W.cell? (ad.add (i * 2 + 1)) = some (.int .i64 g.m) ∧ g.u.size ≤ 9223372036854775807 ∧ (Lit.int .i64 g.m).wf = true := by
      intro i hi
      obtain ⟨cs', h2, h3⟩ := hx i (by omega)
      have c9 : Try.prog.cellsOf 9 = 1 := by kernel_rfl
      have c3 : Try.prog.cellsOf 3 = 1 := by kernel_rfl
      rw [ce] at h2
      obtain ⟨_, hlen, hcell⟩ := World.cells?_some h2
      obtain ⟨y0, y1, k, _, _, g0, g1⟩ := trod_struct2 he h3
      match cs', hlen with
      | [v0, v1], _ =>
        rw [h0.1, h0.2, c9] at g0
        rw [h1.1, h1.2, c3] at g1
        simp at g0 g1
        have e0 := hcell 0 (by omega)
        have e1 := hcell 1 (by omega)
        rw [Go.Deep.add_add] at e0 e1
        simp at e0 e1
        obtain ⟨s, q0, _, hs⟩ := DataW.trod_string Try.underlying9 g0
        obtain ⟨nm, q1, _, w1⟩ := DataW.trod_int Try.underlying3 g1
        simp at q0 q1
        subst q0 q1
        exact ⟨⟨s, nm⟩, e0, e1, by simpa [maxLen] using hs, w1⟩
    obtain ⟨L, hL, hp⟩ := pick_list each
    refine ⟨L, hL, fun j g hg => ?_, fun g hg => ?_, by omega⟩
    · obtain ⟨k0, k1, _, _⟩ := hp j g hg
      refine ⟨ad, rfl, k0, ?_⟩
      have : ad.add (j * 2 + 1) = ⟨(ad.add (j * 2)).block, (ad.add (j * 2)).off + 1, none⟩ := by
        unfold Addr.add
        by_cases h : j * 2 = 0 <;> simp [h, Nat.add_assoc]
      rw [← this]
      exact k1
    · obtain ⟨j, hj, rfl⟩ := List.getElem_of_mem hg
      obtain ⟨_, _, k2, k3⟩ := hp j L[j] (List.getElem?_eq_getElem hj)
      exact ⟨k2, k3⟩
end Go.Proofs.Ytbbmeclngopbmaa
