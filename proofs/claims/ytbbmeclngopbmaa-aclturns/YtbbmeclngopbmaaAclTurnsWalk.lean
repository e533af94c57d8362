/-
  AclTurns: the walk.
-/
import Derived.Test.YtbbmeclngopbmaaAclLaw
import Derived.Test.YtbbmeclngopbmaaAclAppend
namespace Go.Proofs.Ytbbmeclngopbmaa
open Go.RowKit
set_option linter.unusedSimpArgs false

def tl : Nat → List Gr
  | 0 => []
  | n + 1 => tl n ++ [⟨chr (98 + n), 1 + n⟩]
theorem tl_len : ∀ n, (tl n).length = n
  | 0 => rfl
  | n + 1 => by simp [tl, tl_len n]
theorem tl_mem : ∀ n g, g ∈ tl n → ∃ k, k < n ∧ g = ⟨chr (98 + k), 1 + k⟩
  | 0, g, h => by simp [tl] at h
  | n + 1, g, h => by
    simp only [tl, List.mem_append, List.mem_singleton] at h
    rcases h with h | h
    · obtain ⟨k, hk, e⟩ := tl_mem n g h
      exact ⟨k, by omega, e⟩
    · exact ⟨n, by omega, h⟩
theorem tl_sorted : ∀ n, n ≤ 4 → Sorted (tl n)
  | 0, _ => List.Pairwise.nil
  | n + 1, h => by
    refine List.pairwise_append.2 ⟨tl_sorted n (by omega), List.pairwise_singleton _ _, fun a ha b hb => ?_⟩
    obtain ⟨k, hk, rfl⟩ := tl_mem n a ha
    simp at hb
    subst hb
    exact lt_chr (by omega) (by omega)
theorem tl_good {n : Nat} (h : n ≤ 4) : Good (tl n) := by
  refine ⟨by rw [tl_len]; exact h, tl_sorted n h, fun g hg => ?_⟩
  obtain ⟨k, hk, rfl⟩ := tl_mem n g hg
  exact ⟨may_chr _ (by omega) (by omega), by show (1 : Int) ≤ 1 + k; omega, by show (1 : Int) + k ≤ 7; omega⟩

theorem may_B : may ⟨#[66]⟩ = false := by
  have h1 : eqs ⟨#[66]⟩ star = false := eqs_ne (by intro h; cases h)
  have h2 : name ⟨#[66]⟩ = false := by decide
  simp [may, h1, h2]
theorem may_empty : may ⟨#[]⟩ = false := by
  have h1 : eqs ⟨#[]⟩ star = false := eqs_ne (by intro h; cases h)
  have h2 : name ⟨#[]⟩ = false := by decide
  simp [may, h1, h2]

set_option maxRecDepth 20000 in
set_option maxHeartbeats 8000000 in
theorem turns_walk (a b c : Int) (w : World) :
    Calls Try.prog 7 #[.int .i64 a, .int .i64 b, .int .i64 c] w fun e w' => e = .returned (.bool true) ∧ Below w.heap.size w w' := by
  obtain ⟨n, hn, hn4⟩ : ∃ n : Nat, 1 + a % 4 = (n : Int) ∧ (1 ≤ n ∧ n ≤ 4) := ⟨(1 + a % 4).toNat, by omega, by omega⟩
  have hwr : IntKind.i64.wrap (1 + a % 4) = n := by rw [IntKind.wrap_i64]; omega
  go_enter Try.func7, Try.ntmps7
  go_wp2_with fail
  refine (known_any _).mono ?_
  rintro e w1 ⟨rfl, hB1⟩
  go_wp2_with fail
  refine (within_any _ _ (by decide) (by decide) _).mono ?_
  rintro e w2 ⟨rfl, rfl⟩
  go_wp2_with fail
  go_loopw [7, 8] (fun t7 t8 wr => ∃ k : Nat, k ≤ n ∧ t8 = .int .i64 (k : Int) ∧ Own wr w.heap.size t7 (tl k) ∧ Below w.heap.size w wr) (fun _ t8 _ => n - (Go.RowKit.intOf t8).toNat)
  case atStart => exact ⟨0, by omega, rfl, own_nil _ _, hB1⟩
  case round =>
    obtain ⟨k, hk, rfl, ho, hB⟩ := hrel
    by_cases hlt : k < n
    · have hcv := conv_chr wr (98 + k) (by omega)
      push_cast at hcv
      have hBa := Below.then hB (alloc_below wr (.cells #[.int .u8 (98 + (k : Int))] 5))
      have hmw : (98 + (k : Int)) % 256 = 98 + k := by omega
      obtain ⟨W1, hW1⟩ : ∃ W1, wr.alloc (.cells #[.int .u8 (98 + (k : Int))] 5) = W1 := ⟨_, rfl⟩
      have hs1 : W1.heap.size = wr.heap.size + 1 := by rw [← hW1]; simp
      have ho1 := ho.below (alloc_below wr (.cells #[.int .u8 (98 + (k : Int))] 5))
      rw [hW1] at hcv hBa ho1
      obtain ⟨v', W', hap, ho2, hB2⟩ := append_one W1 w.heap.size u7 (tl k) (chr (98 + k)) (1 + k) ho1 (by have := hBa.size; omega) (by rw [tl_len]; omega)
      rw [hs1] at hap
      have hB3 := hBa.trans hB2
      clear ho ho1
      go_wp2_with (first
        | (refine wpList_append_gr rfl _ _ rfl rfl rfl rfl hap ?_)
        | fail)
      exact ⟨⟨k + 1, by omega, by simp, ho2, hB3⟩, by simp [Go.RowKit.intOf]; omega⟩
    · obtain rfl : k = n := by omega
      obtain ⟨al, cap, rfl, hG, hcap⟩ := ho.gat
      rw [tl_len] at hcap ⊢
      have hc := check_any wr al cap (tl k) hG
      rw [tl_len, chk_good.2 (tl_good hn4.2)] at hc
      go_wp2_with fail
      refine hc.mono ?_
      rintro e w3 ⟨rfl, hB3⟩
      have hBk := Below.then hB hB3
      have ho3 := ho.below hB3
      rw [tl_len] at ho3
      go_wp2_with fail
      refine (within_any _ _ (by omega) (by omega) _).mono ?_
      rintro e w4 ⟨rfl, rfl⟩
      go_wp2_with fail
      refine (within_any _ _ (by decide) (by decide) _).mono ?_
      rintro e w5 ⟨rfl, rfl⟩
      obtain ⟨q, hq, hqk⟩ : ∃ q : Nat, b % (k : Int) = (q : Int) ∧ q < k := ⟨(b % (k : Int)).toNat, by have := Int.emod_nonneg b (by omega : (k : Int) ≠ 0); omega, by have := Int.emod_nonneg b (by omega : (k : Int) ≠ 0); have := Int.emod_lt_of_pos b (by omega : (0 : Int) < k); omega⟩
      rw [hq]
      obtain ⟨⟨u0, m0⟩, hg0⟩ : ∃ g0, (tl k)[q]? = some g0 := ⟨_, List.getElem?_eq_getElem (by rw [tl_len]; omega)⟩
      obtain ⟨g, cap', hv, hbg, d0, d1, hfz, hM, hU⟩ := own_turn ho3 hg0
      rw [tl_len] at hv
      obtain ⟨rfl, _, rfl⟩ : al = some ⟨g, 0, none⟩ ∧ True ∧ cap = cap' := by simpa using hv
      have hlen : ∀ x : Gr, ((tl k).set q x).length = k := fun x => by simp [tl_len]
      have hmem : ∀ x : Gr, x ∈ (tl k).set q x := fun x => List.mem_set (by rw [tl_len]; omega) x
      have hchk : ∀ (W : World) (x : Gr), GAt W (some ⟨g, 0, none⟩) ((tl k).set q x) → (may x.u = false ∨ x.m < 1 ∨ 7 < x.m) → Calls Try.prog 9 #[.slice (some ⟨g, 0, none⟩) k cap] W fun e w' => e = .returned (.int .i64 1) ∧ Below W.heap.size W w' := by
        intro W x hx hb
        have := check_any W _ cap _ hx
        rw [hlen, chk_bad (by rw [hlen]; omega) (hmem x) hb] at this
        exact this
      have hset : ∀ (o : Nat) (x : Value), Below w.heap.size w (w5.setCell ⟨g, o, none⟩ x) := fun o x => hBk.setCell (by exact hbg) x
      have f0 := hfz (q * 2)
      have f1 := hfz (q * 2 + 1)
      clear hv hc hG ho hfz
      have h5 : c % 5 = 0 ∨ c % 5 = 1 ∨ c % 5 = 2 ∨ c % 5 = 3 ∨ c % 5 = 4 := by omega
      rcases h5 with h5 | h5 | h5 | h5 | h5
      · have hc2 := hchk _ ⟨u0, 0⟩ (hM 0) (.inr (.inl (by show (0 : Int) < 1; decide)))
        rw [h5]
        go_wp2_with fail
        refine hc2.mono ?_
        rintro e w6 ⟨rfl, hB6⟩
        go_wp2_with fail
        go_ret
        exact ⟨rfl, Below.then (hset _ _) hB6⟩
      · have hc2 := hchk _ ⟨u0, 8⟩ (hM 8) (.inr (.inr (by show (7 : Int) < 8; decide)))
        rw [h5]
        go_wp2_with fail
        refine hc2.mono ?_
        rintro e w6 ⟨rfl, hB6⟩
        go_wp2_with fail
        go_ret
        exact ⟨rfl, Below.then (hset _ _) hB6⟩
      · have hc2 := hchk _ ⟨⟨#[66]⟩, m0⟩ (hU ⟨#[66]⟩) (.inl may_B)
        rw [h5]
        go_wp2_with fail
        refine hc2.mono ?_
        rintro e w6 ⟨rfl, hB6⟩
        go_wp2_with fail
        go_ret
        exact ⟨rfl, Below.then (hset _ _) hB6⟩
      · have hc2 := hchk _ ⟨⟨#[]⟩, m0⟩ (hU ⟨#[]⟩) (.inl may_empty)
        rw [h5]
        go_wp2_with fail
        refine hc2.mono ?_
        rintro e w6 ⟨rfl, hB6⟩
        go_wp2_with fail
        go_ret
        exact ⟨rfl, Below.then (hset _ _) hB6⟩
      · obtain ⟨p, hp⟩ : ∃ p, p + 1 = k := ⟨k - 1, by omega⟩
        obtain ⟨⟨u9, m9⟩, hg9⟩ : ∃ g0, (tl k)[p]? = some g0 := ⟨_, List.getElem?_eq_getElem (by rw [tl_len]; omega)⟩
        obtain ⟨g', cap', hv, _, e0, e1, _, _, _⟩ := own_turn ho3 hg9
        obtain rfl : g = g' := by simp at hv; exact hv.1
        have dw : IntKind.i64.wrap ((k : Int) - 1) = (p : Int) := by rw [IntKind.wrap_i64]; omega
        have hpk : p < k := by omega
        obtain ⟨v', W', hap, ho6, hB6⟩ := append_one w5 w.heap.size _ (tl k) u9 m9 ho3 hBk.size (by rw [tl_len]; omega)
        obtain ⟨a6, c6, rfl, hG6, hc6⟩ := ho6.gat
        have hr := check_any W' a6 c6 _ hG6
        have hno : chk (tl k ++ [⟨u9, m9⟩]) ≠ 0 := by
          rw [Ne, chk_good]
          intro hgd
          have := (List.pairwise_append.1 hgd.ord).2.2 ⟨u9, m9⟩ (List.mem_of_getElem? hg9) ⟨u9, m9⟩ (by simp)
          rw [lt_irrefl] at this
          cases this
        generalize chk (tl k ++ [⟨u9, m9⟩]) = r at hr hno
        have hl6 : (tl k ++ [(⟨u9, m9⟩ : Gr)]).length = k + 1 := by simp [tl_len]
        rw [hl6] at hr hap
        have hB7 := hBk.trans hB6
        clear hv d0 d1 hM hU hchk hset hq hg0 ho6 hG6 hc6 hl6
        rw [h5]
        go_wp2_with (first
          | (refine wpList_append_gr rfl _ _ rfl rfl rfl rfl hap ?_)
          | fail)
        refine hr.mono ?_
        rintro e w7 ⟨rfl, hB8⟩
        go_wp2_with fail
        go_ret
        exact ⟨by simpa using hno, Below.then hB7 hB8⟩
end Go.Proofs.Ytbbmeclngopbmaa
