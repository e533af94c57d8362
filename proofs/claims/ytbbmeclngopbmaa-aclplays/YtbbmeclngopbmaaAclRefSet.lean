/-
  SET: the document's own; and whether two lists are the same.
-/
import Derived.Test.YtbbmeclngopbmaaAclAppend
import Derived.Test.YtbbmeclngopbmaaAclModes
import Derived.Test.YtbbmeclngopbmaaAclSet
namespace Go.Proofs.Ytbbmeclngopbmaa
open Go.RowKit
set_option linter.unusedSimpArgs false

/-- A slice that holds a list. -/
def IsL (w : World) (v : Value) (l : List Gr) : Prop := ∃ a c, v = .slice a l.length c ∧ GAt w a l
theorem isL_nil (w : World) : IsL w (.slice none 0 0) [] := ⟨none, 0, rfl, gat_nil _ _⟩

def filt (u : ByteArray) (l : List Gr) : List Gr := l.filter fun g => !eqs g.u u
def hasG (l : List Gr) (x : ByteArray) : Bool := l.any fun g => eqs g.u x
theorem filt_take {l : List Gr} {j : Nat} {y : Gr} (h : l[j]? = some y) (u : ByteArray) : filt u (l.take (j + 1)) = filt u (l.take j) ++ (if eqs y.u u = true then [] else [y]) := by
  unfold filt
  rw [List.take_add_one, h]
  cases hy : eqs y.u u <;> simp [hy]
theorem hasG_take {l : List Gr} {j : Nat} {y : Gr} (h : l[j]? = some y) (x : ByteArray) : hasG (l.take (j + 1)) x = (hasG (l.take j) x || eqs y.u x) := by
  unfold hasG
  rw [List.take_add_one, h]
  simp
theorem Parts.filt {l A M B : List Gr} {u : ByteArray} (p : Parts l u A M B) : filt u l = A ++ B := by
  have hA : Go.Proofs.Ytbbmeclngopbmaa.filt u A = A := List.filter_eq_self.2 fun g hg => by simp [eqs_ne (lt_ne (p.ahead g hg))]
  have hB : Go.Proofs.Ytbbmeclngopbmaa.filt u B = B := List.filter_eq_self.2 fun g hg => by simp [eqs_ne (lt_ne (p.behind g hg)).symm]
  unfold Go.Proofs.Ytbbmeclngopbmaa.filt at hA hB ⊢
  rw [p.eq, List.filter_append, List.filter_append, hA, hB]
  rcases p.mid with hM | ⟨m, hM⟩
  · rw [hM]; rfl
  · rw [hM]; simp [eqs_self]
theorem Parts.hasG {l A M B : List Gr} {u : ByteArray} (p : Parts l u A M B) : hasG l u = !M.isEmpty := by
  have hA : ∀ g ∈ A, eqs g.u u = false := fun g hg => eqs_ne (lt_ne (p.ahead g hg))
  have hB : ∀ g ∈ B, eqs g.u u = false := fun g hg => eqs_ne (lt_ne (p.behind g hg)).symm
  have hA' : (A.any fun g => eqs g.u u) = false := List.any_eq_false.2 (fun g hg => by simp [hA g hg])
  have hB' : (B.any fun g => eqs g.u u) = false := List.any_eq_false.2 (fun g hg => by simp [hB g hg])
  unfold Go.Proofs.Ytbbmeclngopbmaa.hasG
  rw [p.eq, List.any_append, List.any_append, hA', hB']
  rcases p.mid with hM | ⟨m, hM⟩
  · rw [hM]; rfl
  · rw [hM]; simp [eqs_self]

set_option maxRecDepth 20000 in
set_option maxHeartbeats 8000000 in
theorem rset_any (w : World) (a : Option Addr) (cap : Nat) (l A M B : List Gr) (u : ByteArray) (m : Int) (p : Parts l u A M B) (hG : GAt w a l) (hl : l.length ≤ 100) (hu : u.size ≤ 1000) :
    Calls Try.prog 14 #[.slice a l.length cap, .string u, .int .i64 m] w fun e w' => ∃ v, e = .returned (.tuple #[v, .int .i64 (setE A M B u m)]) ∧ IsL w' v (setL A M B u m) ∧ Below w.heap.size w w' := by
  have bad : (!may u || decide (m < 0) || decide (7 < m)) = true → setE A M B u m = 1 ∧ setL A M B u m = [] := by
    intro h
    have e : setE A M B u m = 1 := by unfold setE; rw [if_pos h]
    exact ⟨e, by unfold setL; rw [e]; rfl⟩
  obtain ⟨n, hn⟩ : ∃ n, l.length = n := ⟨_, rfl⟩
  have hwho := who_any u (by omega)
  cases h1 : may u
  · obtain ⟨e1, e2⟩ := bad (by rw [h1]; rfl)
    rw [e1, e2, hn]
    clear bad
    rw [h1] at hwho
    go_enter Try.func14, Try.ntmps14
    go_wp2_with fail
    refine (hwho _).mono ?_
    rintro e w' ⟨rfl, rfl⟩
    go_wp2_with fail
    go_ret2
    exact ⟨_, rfl, isL_nil _, Below.refl _ _⟩
  rw [h1] at hwho
  by_cases h2 : m < 0
  · obtain ⟨e1, e2⟩ := bad (by simp [h2])
    rw [e1, e2, hn]
    clear bad
    go_enter Try.func14, Try.ntmps14
    go_wp2_with fail
    refine (hwho _).mono ?_
    rintro e w' ⟨rfl, rfl⟩
    go_wp2_with fail
    go_ret2
    exact ⟨_, rfl, isL_nil _, Below.refl _ _⟩
  by_cases h3 : 7 < m
  · obtain ⟨e1, e2⟩ := bad (by simp [h3])
    rw [e1, e2, hn]
    clear bad
    go_enter Try.func14, Try.ntmps14
    go_wp2_with fail
    refine (hwho _).mono ?_
    rintro e w' ⟨rfl, rfl⟩
    go_wp2_with fail
    go_ret2
    exact ⟨_, rfl, isL_nil _, Below.refl _ _⟩
  clear bad
  have hgood : ¬ (!may u || decide (m < 0) || decide (7 < m)) = true := by rw [h1]; simp; omega
  obtain ⟨R, hR⟩ : ∃ R, setL A M B u m = R := ⟨_, rfl⟩
  obtain ⟨E, hE⟩ : ∃ E, setE A M B u m = E := ⟨_, rfl⟩
  have hlen := p.len
  have hfl := p.filt
  have hhs := p.hasG
  rw [hR, hE, hn]
  rw [hn] at hl
  go_enter Try.func14, Try.ntmps14
  go_wp2_with fail
  refine (hwho _).mono ?_
  rintro e w' ⟨rfl, rfl⟩
  go_wp2_with fail
  clear hwho
  go_loopw [8, 9, 10] (fun t8 t9 t10 wr => ∃ i : Nat, i ≤ n ∧ t10 = .int .i64 (i : Int) ∧ t9 = .bool (hasG (l.take i) u) ∧ Own wr w'.heap.size t8 (filt u (l.take i)) ∧ Below w'.heap.size w' wr) (fun _ _ t10 _ => n - (Go.RowKit.intOf t10).toNat)
  case atStart => exact ⟨0, by omega, rfl, rfl, own_nil _ _, Below.refl _ _⟩
  case round =>
    obtain ⟨i, hi, rfl, rfl, ho, hB⟩ := hrel
    by_cases hlt : i < n
    · obtain ⟨y, hy⟩ : ∃ y, l[i]? = some y := ⟨_, List.getElem?_eq_getElem (by omega)⟩
      obtain ⟨x, rfl, c0, c1⟩ := (hG.below hB) _ _ hy
      have hft := filt_take hy u
      have hht := hasG_take hy u
      cases hyu : eqs y.u u
      · have k1 := str_b hyu
        rw [hyu] at hft hht
        simp only [Bool.or_false, Bool.false_eq_true, if_false] at hft hht
        have hls : (filt u (l.take i)).length ≤ i := Nat.le_trans (List.length_filter_le _ _) (by simp; omega)
        obtain ⟨v', W', hap, ho2, hB2⟩ := append_one wr w'.heap.size u8 _ y.u y.m ho hB.size (by omega)
        have hB3 := hB.trans hB2
        have hof : Aside (Own W' w'.heap.size v' (filt u (l.take (i + 1)))) := by rw [Aside, hft]; exact ho2
        have hoh : Aside (hasG (l.take (i + 1)) u = hasG (l.take i) u) := hht
        generalize hasG (l.take i) u = b at hoh ⊢
        clear ho ho2 hft hht hfl hhs hE hR
        go_wp2_with (first
          | (refine wpList_append_gr rfl _ _ rfl rfl rfl rfl hap ?_)
          | fail)
        exact ⟨⟨i + 1, by omega, by simp, by rw [hoh.out], hof.out, hB3⟩, by simp [Go.RowKit.intOf]; omega⟩
      · have k1 := str_b hyu
        rw [hyu] at hft hht
        simp only [Bool.or_true, if_true, List.append_nil] at hft hht
        have hof : Aside (Own wr w'.heap.size u8 (filt u (l.take (i + 1)))) := by rw [Aside, hft]; exact ho
        have hoh : Aside (hasG (l.take (i + 1)) u = true) := hht
        generalize hasG (l.take i) u = b at ⊢
        clear ho hft hht hfl hhs hE hR
        go_wp2_with fail
        exact ⟨⟨i + 1, by omega, by simp, by rw [hoh.out], hof.out, hB⟩, by simp [Go.RowKit.intOf]; omega⟩
    · obtain rfl : i = n := by omega
      rw [List.take_of_length_le (by omega), hfl] at ho
      rw [List.take_of_length_le (by omega), hhs]
      obtain ⟨a8, c8, rfl, hG8, hc8⟩ := ho.gat
      obtain ⟨c, hc⟩ : ∃ c, A.length = c := ⟨_, rfl⟩
      obtain ⟨b, hb⟩ : ∃ b, B.length = b := ⟨_, rfl⟩
      have hab : (A ++ B).length = c + b := by simp [hc, hb]
      rw [hab] at hc8 ⊢
      by_cases hm : m = 0
      · cases hMe : M.isEmpty
        · have e1 : E = 0 := by rw [← hE]; unfold setE; rw [if_neg hgood, if_pos hm, if_neg (by intro h; rw [h] at hMe; cases hMe)]
          have e2 : R = A ++ B := by rw [← hR]; unfold setL; rw [hE, e1, if_pos rfl, if_pos hm]; rfl
          subst e1 e2
          clear hE hR hfl hhs
          go_wp2_with fail
          go_ret2
          exact ⟨_, rfl, ⟨a8, c8, by rw [hab]; rfl, hG8⟩, hB⟩
        · have e1 : E = 2 := by rw [← hE]; unfold setE; rw [if_neg hgood, if_pos hm, if_pos (by simpa using hMe)]
          have e2 : R = [] := by rw [← hR]; unfold setL; rw [hE, e1]; rfl
          subst e1 e2
          clear hE hR hfl hhs
          go_wp2_with fail
          go_ret2
          exact ⟨_, rfl, isL_nil _, hB⟩
      · by_cases h4 : 4 ≤ c + b
        · have e1 : E = 4 := by rw [← hE]; unfold setE; rw [if_neg hgood, if_neg hm, if_pos (by omega)]
          have e2 : R = [] := by rw [← hR]; unfold setL; rw [hE, e1]; rfl
          subst e1 e2
          clear hE hR hfl hhs
          go_wp2_with fail
          go_ret2
          exact ⟨_, rfl, isL_nil _, hB⟩
        · have e1 : E = 0 := by rw [← hE]; unfold setE; rw [if_neg hgood, if_neg hm, if_neg (by omega)]
          have e2 : R = A ++ ([⟨u, m⟩] ++ B) := by rw [← hR]; unfold setL; rw [hE, e1, if_pos rfl, if_neg hm]
          subst e1 e2
          clear hE hR hfl hhs
          have hs1 := fun W => slice_to W a8 (c + b) c8 c (by omega) hc8
          have hs2 := fun W => slice_from W a8 (c + b) c8 c (by omega)
          rw [show c + b - c = b by omega] at hs2
          have hGA : GAt wr a8 A := hG8.left
          have hGB : GAt wr (sub a8 c c8) B := by rw [← hc]; exact GAt.sub hG8 (by omega)
          obtain ⟨v1, W1, hap1, ho1, hB1, hg1⟩ := append_gr wr wr.heap.size (.slice none 0 0) [] (own_nil _ _) a8 A c8 c hc hGA (Nat.le_refl _) (by simp; omega)
          simp only [List.nil_append] at ho1
          obtain ⟨v2, W2, hap2, ho2, hB2⟩ := append_one W1 wr.heap.size v1 A u m ho1 hB1.size (by omega)
          have hB12 := hB1.trans hB2
          obtain ⟨v3, W3, hap3, ho3, hB3, _⟩ := append_gr W2 wr.heap.size v2 _ ho2 (sub a8 c c8) B (c8 - c) b hb (hGB.below hB12) hB12.size (by simp; omega)
          have hB13 := Below.then hB (hB12.trans hB3)
          obtain ⟨a9, c9, rfl, hG9, hc9⟩ := ho3.gat
          have hall : A ++ [(⟨u, m⟩ : Gr)] ++ B = A ++ ([⟨u, m⟩] ++ B) := by simp
          rw [hall] at hap3 hG9
          have hln : (A ++ ([(⟨u, m⟩ : Gr)] ++ B)).length = c + (1 + b) := by simp [hc, hb]; omega
          rw [hln] at hap3
          have hIs : IsL W3 (.slice a9 (c + (1 + b)) c9) (A ++ ([⟨u, m⟩] ++ B)) := ⟨a9, c9, by rw [hln], hG9⟩
          have hlt1 : ∀ (j : Nat) (y : Gr), (A ++ B)[j]? = some y → j < c → Op.bytesLess y.u.toList u.toList = true := by
            intro j y hy hj
            rw [List.getElem?_append_left (by omega)] at hy
            exact p.ahead y (List.mem_of_getElem? hy)
          have hlt2 : ∀ (y : Gr), (A ++ B)[c]? = some y → Op.bytesLess y.u.toList u.toList = false := by
            intro y hy
            rw [List.getElem?_append_right (by omega)] at hy
            exact lt_asymm (p.behind y (List.mem_of_getElem? hy))
          clear ho1 ho2 ho3 hB1 hB2 hB3 hg1 hGA hGB hG p hall
          go_wp2_with fail
          have hm' : (m == 0) = false := by simpa using hm
          simp only [hm']
          clear hm'
          go_loopw [11] (fun t11 wq => ∃ k : Nat, k ≤ c ∧ t11 = .int .i64 (k : Int) ∧ wq = wr) (fun t11 _ => c - (Go.RowKit.intOf t11).toNat)
          case atStart => exact ⟨0, by omega, rfl, rfl⟩
          case round =>
            obtain ⟨k, hk, rfl, rfl⟩ := hrel
            by_cases hkc : k < c
            · obtain ⟨y, hy⟩ : ∃ y, (A ++ B)[k]? = some y := ⟨_, List.getElem?_eq_getElem (by omega)⟩
              obtain ⟨x, rfl, c0, c1⟩ := hG8 _ _ hy
              have k1 := hlt1 k y hy hkc
              clear hap1 hap2 hap3
              go_wp2_with fail
              exact ⟨⟨k + 1, by omega, by simp, trivial⟩, by simp [Go.RowKit.intOf]; omega⟩
            · obtain rfl : k = c := by omega
              by_cases hb0 : 0 < b
              · obtain ⟨y, hy⟩ : ∃ y, (A ++ B)[k]? = some y := ⟨_, List.getElem?_eq_getElem (by omega)⟩
                have k1 := hlt2 y hy
                obtain ⟨x, hx, c0, c1⟩ := hG8 _ _ hy
                subst hx
                go_wp2_with (first
                  | (refine wpList_append_gr rfl _ _ rfl rfl rfl rfl hap1 ?_)
                  | (refine wpList_append_gr rfl _ _ rfl rfl rfl rfl hap2 ?_)
                  | (refine wpList_append_gr rfl _ _ rfl rfl rfl rfl hap3 ?_)
                  | fail)
                go_ret2
                exact ⟨_, rfl, hIs, hB13⟩
              · go_wp2_with (first
                  | (refine wpList_append_gr rfl _ _ rfl rfl rfl rfl hap1 ?_)
                  | (refine wpList_append_gr rfl _ _ rfl rfl rfl rfl hap2 ?_)
                  | (refine wpList_append_gr rfl _ _ rfl rfl rfl rfl hap3 ?_)
                  | fail)
                go_ret2
                exact ⟨_, rfl, hIs, hB13⟩
end Go.Proofs.Ytbbmeclngopbmaa
