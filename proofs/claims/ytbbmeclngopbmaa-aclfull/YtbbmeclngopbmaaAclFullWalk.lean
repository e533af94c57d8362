/-
  AclFull: the walk.
-/
import Derived.Test.YtbbmeclngopbmaaAclLaw
import Derived.Test.YtbbmeclngopbmaaAclAppend
import Derived.Test.YtbbmeclngopbmaaAclSet
namespace Go.Proofs.Ytbbmeclngopbmaa
open Go.RowKit
set_option linter.unusedSimpArgs false

/-- Set that is done. -/
theorem set_ok (w : World) (a : Option Addr) (cap n : Nat) (l A M B : List Gr) (u : ByteArray) (m : Int) (p : Parts l u A M B) (hG : GAt w a l) (hn : l.length = n) (hl : n ≤ 100) (hcap : n ≤ cap) (L : List Gr) (k : Nat) (hE : setE A M B u m = 0) (hL : A ++ ((if m = 0 then [] else [⟨u, m⟩]) ++ B) = L) (hk : L.length = k) (hpos : 0 < k) :
    Calls Try.prog 13 #[.slice a n cap, .string u, .int .i64 m] w fun e w' => ∃ g, e = .returned (.tuple #[.slice (some ⟨g, 0, none⟩) k k, .int .i64 0]) ∧ GAt w' (some ⟨g, 0, none⟩) L ∧ Below w.heap.size w w' := by
  subst hn
  refine (set_any w a cap l A M B u m p hG hl hcap).mono ?_
  rintro e w' ⟨v, rfl, hg, hB⟩
  have hS : setL A M B u m = L := by unfold setL; rw [if_pos hE, hL]
  rw [hS] at hg
  rw [hE]
  rcases hg with ⟨h0, _⟩ | ⟨g, rfl, hg, _⟩
  · rw [h0] at hk; simp at hk; omega
  · rw [hk]
    exact ⟨g, rfl, gat_row hg L (fun j _ => by simp), hB⟩
/-- Set that is refused. -/
theorem set_no (w : World) (a : Option Addr) (cap n : Nat) (l A M B : List Gr) (u : ByteArray) (m : Int) (p : Parts l u A M B) (hG : GAt w a l) (hn : l.length = n) (hl : n ≤ 100) (hcap : n ≤ cap) (r : Int) (hE : setE A M B u m = r) (hr : r ≠ 0) :
    Calls Try.prog 13 #[.slice a n cap, .string u, .int .i64 m] w fun e w' => ∃ a' c', e = .returned (.tuple #[.slice a' 0 c', .int .i64 r]) ∧ Below w.heap.size w w' := by
  subst hn
  refine (set_any w a cap l A M B u m p hG hl hcap).mono ?_
  rintro e w' ⟨v, rfl, hg, hB⟩
  have hS : setL A M B u m = [] := by unfold setL; rw [if_neg (by rw [hE]; exact hr)]
  rw [hS] at hg
  obtain ⟨a', c', rfl, _, _⟩ := hg.gat
  rw [hE]
  exact ⟨a', c', rfl, hB⟩

def fl (m : Int) : Nat → List Gr
  | 0 => []
  | n + 1 => fl m n ++ [⟨chr (97 + n), m⟩]
theorem fl_len (m : Int) : ∀ n, (fl m n).length = n
  | 0 => rfl
  | n + 1 => by simp [fl, fl_len m n]
theorem fl_mem (m : Int) : ∀ n g, g ∈ fl m n → ∃ k, k < n ∧ g = ⟨chr (97 + k), m⟩
  | 0, g, h => by simp [fl] at h
  | n + 1, g, h => by
    simp only [fl, List.mem_append, List.mem_singleton] at h
    rcases h with h | h
    · obtain ⟨k, hk, e⟩ := fl_mem m n g h
      exact ⟨k, by omega, e⟩
    · exact ⟨n, by omega, h⟩
theorem fl_parts (m : Int) (n k : Nat) (h : n ≤ k) (hk : k < 100) : Parts (fl m n) (chr (97 + k)) (fl m n) [] [] := by
  refine ⟨by simp, fun g hg => ?_, by simp, .inl rfl⟩
  obtain ⟨j, hj, rfl⟩ := fl_mem m n g hg
  exact lt_chr (by omega) (by omega)
theorem good_m {m : Int} (h1 : 1 ≤ m) (h7 : m ≤ 7) {u : ByteArray} (hu : may u = true) : ¬ (!may u || decide (m < 0) || decide (7 < m)) = true := by rw [hu]; simp; omega
theorem good_0 {u : ByteArray} (hu : may u = true) : ¬ (!may u || decide ((0 : Int) < 0) || decide (7 < (0 : Int))) = true := by rw [hu]; decide
theorem may_star : may star = true := by simp [may, eqs_self]
theorem star_lt (k : Nat) (h1 : 97 ≤ k) (h2 : k < 200) : lt star (chr k) = true := by
  refine lt_lits' ?_
  have : (42 : UInt8) < UInt8.ofNat k := by
    rw [UInt8.lt_iff_toNat_lt]
    simp
    omega
  simp [star, chr, Op.bytesLess, this]
theorem sorted4 {a b c d : Gr} (h1 : lt a.u b.u = true) (h2 : lt b.u c.u = true) (h3 : lt c.u d.u = true) : Sorted [a, b, c, d] := by
  refine List.Pairwise.cons (fun x hx => ?_) (List.Pairwise.cons (fun x hx => ?_) (List.Pairwise.cons (fun x hx => ?_) (List.pairwise_singleton _ _)))
  · simp at hx
    rcases hx with rfl | rfl | rfl
    · exact h1
    · exact lt_trans h1 h2
    · exact lt_trans (lt_trans h1 h2) h3
  · simp at hx
    rcases hx with rfl | rfl
    · exact h2
    · exact lt_trans h2 h3
  · simp at hx
    subst hx
    exact h3

set_option maxRecDepth 20000 in
set_option maxHeartbeats 8000000 in
theorem full_walk (a b : Int) (w : World) :
    Calls Try.prog 6 #[.int .i64 a, .int .i64 b] w fun e w' => e = .returned (.bool true) ∧ Below w.heap.size w w' := by
  obtain ⟨n, hn, hn6⟩ : ∃ n : Nat, a % 7 = (n : Int) ∧ n ≤ 6 := ⟨(a % 7).toNat, by omega, by omega⟩
  obtain ⟨m, hm, hm1, hm7⟩ : ∃ m : Int, 1 + b % 7 = m ∧ 1 ≤ m ∧ m ≤ 7 := ⟨_, rfl, by omega, by omega⟩
  have hwr : IntKind.i64.wrap (1 + b % 7) = m := by rw [IntKind.wrap_i64]; omega
  go_enter Try.func6, Try.ntmps6
  go_wp2_with fail
  refine (known_any _).mono ?_
  rintro e w1 ⟨rfl, hB1⟩
  go_wp2_with fail
  refine (within_any _ _ (by decide) (by decide) _).mono ?_
  rintro e w2 ⟨rfl, rfl⟩
  go_wp2_with fail
  refine (within_any _ _ (by decide) (by decide) _).mono ?_
  rintro e w3 ⟨rfl, rfl⟩
  go_wp2_with fail
  clear hwr hn hm
  go_loopw [5, 6] (fun t5 t6 wr => ∃ (k j : Nat) (al : Option Addr) (cap : Nat), k ≤ n ∧ t6 = .int .i64 (k : Int) ∧ j = min k 4 ∧ t5 = .slice al j cap ∧ j ≤ cap ∧ GAt wr al (fl m j) ∧ Below w.heap.size w wr) (fun _ t6 _ => n - (Go.RowKit.intOf t6).toNat)
  case atStart => exact ⟨0, 0, none, 0, by omega, rfl, rfl, rfl, Nat.le_refl _, gat_nil _ _, hB1⟩
  case round =>
    obtain ⟨k, j, al, cap, hk, rfl, hj, rfl, hcap, hG, hB⟩ := hrel
    by_cases hlt : k < n
    · have hcv := conv_chr wr (97 + k) (by omega)
      push_cast at hcv
      have hBa := Below.then hB (alloc_below wr (.cells #[.int .u8 (97 + (k : Int))] 5))
      have hGa := hG.below (alloc_below wr (.cells #[.int .u8 (97 + (k : Int))] 5))
      have hmw : (97 + (k : Int)) % 256 = 97 + k := by omega
      have hp := fl_parts m j k (by omega) (by omega)
      by_cases h4 : k < 4
      · obtain rfl : j = k := by omega
        clear hj
        have hE : setE (fl m j) [] [] (chr (97 + j)) m = 0 := by
          unfold setE
          rw [if_neg (good_m hm1 hm7 (may_chr _ (by omega) (by omega))), if_neg (by omega), if_neg (by rw [fl_len]; simp; omega)]
        have hs := set_ok _ al cap j (fl m j) _ [] [] _ m hp hGa (fl_len m j) (by omega) hcap (fl m (j + 1)) (j + 1) hE (by rw [if_neg (by omega)]; simp [fl]) (fl_len m (j + 1)) (by omega)
        go_wp2_with fail
        refine hs.mono ?_
        rintro e w4 ⟨g, rfl, hG4, hB4⟩
        go_wp2_with fail
        exact ⟨⟨j + 1, j + 1, _, _, by omega, by simp, by omega, rfl, Nat.le_refl _, hG4, Below.then hBa hB4⟩, by simp [Go.RowKit.intOf]; omega⟩
      · obtain rfl : j = 4 := by omega
        clear hj
        have hE : setE (fl m 4) [] [] (chr (97 + k)) m = 4 := by
          unfold setE
          rw [if_neg (good_m hm1 hm7 (may_chr _ (by omega) (by omega))), if_neg (by omega), if_pos (by rw [fl_len]; simp)]
        have hs := set_no _ al cap 4 (fl m 4) _ [] [] _ m hp hGa (fl_len m 4) (by omega) hcap 4 hE (by decide)
        go_wp2_with fail
        refine hs.mono ?_
        rintro e w4 ⟨a', c', rfl, hB4⟩
        have hG4 := (hG.below (alloc_below wr (.cells #[.int .u8 (97 + (k : Int))] 5))).below hB4
        go_wp2_with fail
        exact ⟨⟨k + 1, 4, _, _, by omega, by simp, by omega, rfl, hcap, hG4, Below.then hBa hB4⟩, by simp [Go.RowKit.intOf]; omega⟩
    · obtain rfl : k = n := by omega
      by_cases h4 : k < 4
      · obtain rfl : j = k := by omega
        clear hj
        go_wp2_with fail
        go_ret
        exact ⟨by simp, hB⟩
      · obtain rfl : j = 4 := by omega
        clear hj
        have hml : ∀ L : List Gr, Sorted L → L.length ≤ 4 → ∀ (W : World) (g c : Nat) (u : ByteArray), GAt W (some ⟨g, 0, none⟩) L → Calls Try.prog 11 #[.slice (some ⟨g, 0, none⟩) L.length c, .string u] W fun e w' => e = .returned (.int .i64 (modesL L u)) ∧ Below W.heap.size W w' := fun L hs hl W g c u hG => modes_any W _ c L u hs hG (by omega)
        have l97 := fun k h h' => star_lt (97 + k) h h'
        have x1 : lt (chr 97) (chr 98) = true := lt_chr (by decide) (by decide)
        have x2 : lt (chr 98) (chr 99) = true := lt_chr (by decide) (by decide)
        have x3 : lt (chr 99) (chr 100) = true := lt_chr (by decide) (by decide)
        have x0 : lt star (chr 97) = true := star_lt 97 (by decide) (by decide)
        have y97 := may_chr 97 (by decide) (by decide)
        have y98 := may_chr 98 (by decide) (by decide)
        have hw8 : IntKind.i64.wrap (8 - m) = 8 - m := by rw [IntKind.wrap_i64]; omega
        have hfl : fl m 4 = [⟨chr 97, m⟩, ⟨chr 98, m⟩, ⟨chr 99, m⟩, ⟨chr 100, m⟩] := rfl
        rw [hfl] at hG
        have p1 : Parts [⟨chr 97, m⟩, ⟨chr 98, m⟩, ⟨chr 99, m⟩, ⟨chr 100, m⟩] (chr 98) [⟨chr 97, m⟩] [⟨chr 98, m⟩] [⟨chr 99, m⟩, ⟨chr 100, m⟩] := ⟨rfl, by simp [x1], by simp [x2, lt_trans x2 x3], .inr ⟨m, rfl⟩⟩
        have p2 : Parts [⟨chr 97, m⟩, ⟨chr 98, 8 - m⟩, ⟨chr 99, m⟩, ⟨chr 100, m⟩] (chr 97) [] [⟨chr 97, m⟩] [⟨chr 98, 8 - m⟩, ⟨chr 99, m⟩, ⟨chr 100, m⟩] := ⟨rfl, by simp, by simp [x1, lt_trans x1 x2, lt_trans x1 (lt_trans x2 x3)], .inr ⟨m, rfl⟩⟩
        have p3 : Parts [⟨chr 98, 8 - m⟩, ⟨chr 99, m⟩, ⟨chr 100, m⟩] star [] [] [⟨chr 98, 8 - m⟩, ⟨chr 99, m⟩, ⟨chr 100, m⟩] := ⟨rfl, by simp, by simp [lt_trans x0 x1, lt_trans x0 (lt_trans x1 x2), lt_trans x0 (lt_trans x1 (lt_trans x2 x3))], .inl rfl⟩
        have p4 : Parts [⟨star, m⟩, ⟨chr 98, 8 - m⟩, ⟨chr 99, m⟩, ⟨chr 100, m⟩] (chr 97) [⟨star, m⟩] [] [⟨chr 98, 8 - m⟩, ⟨chr 99, m⟩, ⟨chr 100, m⟩] := ⟨rfl, by simp [x0], by simp [x1, lt_trans x1 x2, lt_trans x1 (lt_trans x2 x3)], .inl rfl⟩
        have s1 := set_ok wr al cap 4 _ _ _ _ _ (8 - m) p1 hG rfl (by decide) hcap [⟨chr 97, m⟩, ⟨chr 98, 8 - m⟩, ⟨chr 99, m⟩, ⟨chr 100, m⟩] 4 (by unfold setE; rw [if_neg (good_m (by omega) (by omega) y98), if_neg (by omega), if_neg (by simp)]) (by rw [if_neg (by omega)]; rfl) rfl (by decide)
        have s2 := fun W g hG => set_ok W (some ⟨g, 0, none⟩) 4 4 _ _ _ _ _ 0 p2 hG rfl (by decide) (by decide) [⟨chr 98, 8 - m⟩, ⟨chr 99, m⟩, ⟨chr 100, m⟩] 3 (by unfold setE; rw [if_neg (good_0 y97), if_pos rfl, if_neg (by simp)]) rfl rfl (by decide)
        have s3 := fun W g hG => set_ok W (some ⟨g, 0, none⟩) 3 3 _ _ _ _ _ m p3 hG rfl (by decide) (by decide) [⟨star, m⟩, ⟨chr 98, 8 - m⟩, ⟨chr 99, m⟩, ⟨chr 100, m⟩] 4 (by unfold setE; rw [if_neg (good_m hm1 hm7 may_star), if_neg (by omega), if_neg (by simp)]) (by rw [if_neg (by omega)]; rfl) rfl (by decide)
        have s4 := fun W g hG => set_no W (some ⟨g, 0, none⟩) 4 4 _ _ _ _ _ 0 p4 hG rfl (by decide) (by decide) 2 (by unfold setE; rw [if_neg (good_0 y97), if_pos rfl, if_pos rfl]) (by decide)
        have t1 : modesL [⟨chr 97, m⟩, ⟨chr 98, 8 - m⟩, ⟨chr 99, m⟩, ⟨chr 100, m⟩] (chr 98) = 8 - m := by
          have e1 : eqs (chr 97) (chr 98) = false := eqs_ne (lt_ne x1)
          simp [modesL, look_cons, e1, eqs_self]
        have t2 : modesL [⟨star, m⟩, ⟨chr 98, 8 - m⟩, ⟨chr 99, m⟩, ⟨chr 100, m⟩] (chr 97) = m := by
          have e1 : eqs star (chr 97) = false := eqs_ne (lt_ne x0)
          have e2 : eqs (chr 98) (chr 97) = false := eqs_ne (lt_ne x1).symm
          have e3 : eqs (chr 99) (chr 97) = false := eqs_ne (lt_ne (lt_trans x1 x2)).symm
          have e4 : eqs (chr 100) (chr 97) = false := eqs_ne (lt_ne (lt_trans x1 (lt_trans x2 x3))).symm
          simp [modesL, look_cons, e1, e2, e3, e4, eqs_self, look]
        have m1 := fun W g hG => hml [⟨chr 97, m⟩, ⟨chr 98, 8 - m⟩, ⟨chr 99, m⟩, ⟨chr 100, m⟩] (sorted4 x1 x2 x3) (Nat.le_refl 4) W g 4 (chr 98) hG
        have m2 := fun W g hG => hml [⟨star, m⟩, ⟨chr 98, 8 - m⟩, ⟨chr 99, m⟩, ⟨chr 100, m⟩] (sorted4 (lt_trans x0 x1) x2 x3) (Nat.le_refl 4) W g 4 (chr 97) hG
        rw [t1] at m1
        rw [t2] at m2
        clear hml l97 x0 x1 x2 x3 y97 y98 p1 p2 p3 p4 t1 t2 hfl hG
        go_wp2_with fail
        refine s1.mono ?_
        rintro e w4 ⟨g1, rfl, hG1, hB4⟩
        go_wp2_with fail
        refine (s2 _ _ hG1).mono ?_
        rintro e w5 ⟨g2, rfl, hG2, hB5⟩
        go_wp2_with fail
        refine (s3 _ _ hG2).mono ?_
        rintro e w6 ⟨g3, rfl, hG3, hB6⟩
        go_wp2_with fail
        refine (s4 _ _ hG3).mono ?_
        rintro e w7 ⟨a7, c7, rfl, hB7⟩
        go_wp2_with fail
        refine (m1 _ _ (((hG1.below hB5).below hB6).below hB7)).mono ?_
        rintro e w8 ⟨rfl, hB8⟩
        have hG3' := (hG3.below hB7).below hB8
        obtain ⟨x9, hx9, c9, _⟩ := hG3' 0 _ rfl
        obtain rfl : (⟨g3, 0, none⟩ : Addr) = x9 := by simpa using hx9
        simp [Addr.add] at c9
        have c9b : star.toList = [42] := by rw [toL]; rfl
        go_wp2_with fail
        refine (m2 _ _ hG3').mono ?_
        rintro e w9 ⟨rfl, hB9⟩
        go_wp2_with fail
        go_ret
        exact ⟨by simp, Below.then (Below.then (Below.then (Below.then (Below.then (Below.then hB hB4) hB5) hB6) hB7) hB8) hB9⟩
end Go.Proofs.Ytbbmeclngopbmaa
