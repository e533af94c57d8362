/-
  A CRASH IN PLAIN WORDS: of each sector in the buffer a front stays; and what a log's platter may be then.
-/
import Derived.Test.YtgjnlocokkjejaaWalKnown
import Derived.Test.YtgjnlocokkjejaaDiskCrash
namespace Go.Proofs.Ytgjnlocokkjejaa
open Go.RowKit Go.Maps

/-- A platter that a crash may leave. -/
def Torn (σ : Dsk) (p : Nat → List Int) : Prop := ∀ j, (σ.bf j = none → p j = σ.pl j) ∧ ∀ l, σ.bf j = some l → ∃ f, f ≤ 128 ∧ p j = l.take f ++ (σ.pl j).drop f
/-- The disk behind it. -/
def risen (p : Nat → List Int) : Dsk := ⟨p, fun _ => none, 0, false⟩

theorem torn_again (l r : List Int) (f g : Nat) (hl : f ≤ l.length) (hg : g ≤ l.length) : l.take f ++ (l.take g ++ r.drop g).drop f = l.take (max f g) ++ r.drop (max f g) := by
  apply List.ext_getElem?
  intro j
  simp only [List.getElem?_append, List.getElem?_take, List.getElem?_drop, List.length_take, Nat.min_eq_left hl, Nat.min_eq_left hg]
  have hm : max f g ≤ l.length := Nat.max_le.2 ⟨hl, hg⟩
  rw [Nat.min_eq_left hm]
  by_cases h1 : j < f
  · rw [if_pos h1, if_pos h1, if_pos (show j < max f g by omega), if_pos (show j < max f g by omega)]
  · rw [if_neg h1]
    by_cases h2 : j < g
    · rw [if_pos (show f + (j - f) < g by omega), if_pos (show f + (j - f) < g by omega), if_pos (show j < max f g by omega), if_pos (show j < max f g by omega), show f + (j - f) = j by omega]
    · rw [if_neg (show ¬ f + (j - f) < g by omega), if_neg (show ¬ j < max f g by omega), show g + (f + (j - f) - g) = max f g + (j - max f g) by omega]

theorem crash_torn (D : DataW (List Int)) (picks ks : List Int) (pl : Nat → List Int) (hk : ∀ x ∈ ks, 0 ≤ x ∧ Maps.has D (.int .i64 x) = true) (hs : ∀ j l, bfOf D j = some l → l.length = 128 ∧ (pl j).length = 128) : ∀ i, i ≤ ks.length → ∀ j, (bfOf D j = none → crashTo D picks ks pl i j = pl j) ∧ ∀ l, bfOf D j = some l → ∃ f, f ≤ 128 ∧ crashTo D picks ks pl i j = l.take f ++ (pl j).drop f
  | 0, _, j => ⟨fun _ => rfl, fun l _ => ⟨0, by omega, by simp [crashTo]⟩⟩
  | i + 1, hi, j => by
    obtain ⟨h1, h2⟩ := crash_torn D picks ks pl hk hs i (by omega) j
    have hmem : ks.getD i 0 ∈ ks := by
      rw [show ks.getD i 0 = ks[i] by simp [List.getD, show i < ks.length by omega]]
      exact List.getElem_mem _
    obtain ⟨h0, hh⟩ := hk _ hmem
    have hf0 := frontOf_lo (picks.getD i 0)
    have hf1 := frontOf_hi (picks.getD i 0)
    simp only [crashTo, crashStep]
    by_cases e : j = (ks.getD i 0).toNat
    · have ej : ((j : Nat) : Int) = ks.getD i 0 := by omega
      have hb : bfOf D j = some (bufAt D (ks.getD i 0)) := by rw [bfOf, ej, if_pos hh]
      rw [if_pos e]
      refine ⟨fun hn => (by rw [hb] at hn; cases hn), fun l hl => ?_⟩
      rw [hb] at hl
      cases hl
      obtain ⟨f, hf, e2⟩ := h2 _ hb
      obtain ⟨l1, l2⟩ := hs j _ hb
      rw [e2, torn_again _ _ _ _ (by omega) (by omega)]
      exact ⟨_, by omega, rfl⟩
    · rw [if_neg e]
      exact ⟨h1, h2⟩

section
variable {w : World} {db pb mb n B : Nat} {σ : Dsk}
theorem Crash_any (h : DiskIs w db pb mb n B σ) (hB : B ≤ 1000000) (picks : List Int) (pa : Option Addr) (pc : Nat)
    (hp : picks = [] ∨ ∃ y, pa = some y ∧ ∀ j, j < picks.length → w.cell? (y.add j) = some (.int .i64 (picks.getD j 0)) ∧ (y.add j).block ≠ pb) :
    Calls Try.prog 20 #[.pointer (some ⟨db, 0, none⟩), .slice pa picks.length pc] w fun e w' => ∃ r, e = .returned (.int .i64 r) ∧ ∃ p, Torn σ p ∧ DiskIs w' db pb mb n B (risen p) ∧ Kept [db, pb, mb] w w' := by
  obtain ⟨nn, D, ops, hD, hf, h1, h2, h3, h4, h5⟩ := h
  refine (crash_at hD (by omega) picks pa pc hp).mono ?_
  rintro e w' ⟨ks, hperm, _, rfl, d, k⟩
  have hkeys : ∀ x ∈ ks, Maps.has D (.int .i64 x) = true := fun x hx => has_of_key hD.buf (hperm.mem_iff.1 hx)
  refine ⟨_, rfl, _, ?_, ⟨0, _, ops, d, by rw [bf_none]; rfl, Nat.zero_le _, h2, h3, Int.le_refl _, (by decide : (0 : Int) < 1000000)⟩, k⟩
  have ht := crash_torn D picks ks σ.pl (fun x hx => ⟨(hD.keys x (hkeys x hx)).1, hkeys x hx⟩) (fun j l hl => by
    have hh : Maps.has D (.int .i64 (j : Int)) = true := by
      by_cases hc : Maps.has D (.int .i64 (j : Int)) = true
      · exact hc
      · rw [bfOf, if_neg hc] at hl; cases hl
    have hr := hD.keys _ hh
    have hn := hD.newest_sec (j : Int) hr.1 hr.2
    rw [newestOf, if_pos hh] at hn
    rw [bfOf, if_pos hh] at hl
    cases hl
    exact ⟨hn.1, (hD.plat j (by omega)).1.1⟩) ks.length (Nat.le_refl _)
  intro j
  rw [hf]
  exact ht j
end

/-! ### A log's platter -/
/-- Nothing is due. -/
structure IdleP (n : Nat) (p : Nat → List Int) (U : Nat → List Int) (s : Int) : Prop where
  state : (p 0).getD 8 0 ≠ 1
  seq : (p 0).take 8 = enc 8 s
  user : ∀ k, 42 ≤ k → k < n → p k = U k
/-- A commit is due. -/
structure DueP (n : Nat) (p : Nat → List Int) (U : Nat → List Int) (s : Int) (m : Nat) : Prop where
  state : (p 0).getD 8 0 = 1
  top : (p 0).getD 7 0 < 128
  count : (p 1).getD 8 0 = (m : Int)
  few : m ≤ 40
  seq : (p 1).take 8 = enc 8 s
  nums : ∀ j, j < m → 42 ≤ num (p 1) j ∧ num (p 1) j < n
  data : ∀ j, j < m → p (2 + j) = U (num (p 1) j)
  user : ∀ k, 42 ≤ k → k < n → (∀ j, j < m → num (p 1) j ≠ k) → p k = U k
/-- Whatever a crash leaves, it is one of these. -/
def SafeP (n : Nat) (σ : Dsk) (A : (Nat → List Int) → Int → Prop) : Prop := ∀ p, Torn σ p → ∃ U s, A U s ∧ (IdleP n p U s ∨ ∃ m, DueP n p U s m)
end Go.Proofs.Ytgjnlocokkjejaa
