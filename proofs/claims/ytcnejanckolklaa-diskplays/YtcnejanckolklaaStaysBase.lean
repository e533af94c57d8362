/-
  WHAT A CRASH DOES TO THE SECTOR OF THE LEAST NUMBER IN THE BUFFER.
-/
import Derived.Test.YtcnejanckolklaaDiskCrash
namespace Go.Proofs.Ytcnejanckolklaa
open Go.RowKit Go.Maps

/-- A sector whose number does not come among the first i is as it was. -/
theorem crashTo_other (D : DataW (List Int)) (picks ks : List Int) (pl : Nat → List Int) (j : Nat) : ∀ i, (∀ m, m < i → (ks.getD m 0).toNat ≠ j) → crashTo D picks ks pl i j = pl j
  | 0, _ => rfl
  | i + 1, h => by
    show (if j = (ks.getD i 0).toNat then _ else crashTo D picks ks pl i j) = pl j
    rw [if_neg (fun e => h i (by omega) e.symm)]
    exact crashTo_other D picks ks pl j i (fun m hm => h m (by omega))

/-- The first of the numbers: its sector has a front of the newer bytes, whatever comes behind it. -/
theorem crashTo_first (D : DataW (List Int)) (picks ks : List Int) (pl : Nat → List Int) (k : Int) : ∀ i, 0 < i → ks.getD 0 0 = k → (∀ m, 0 < m → m < i → (ks.getD m 0).toNat ≠ k.toNat) →
    crashTo D picks ks pl i k.toNat = (bufAt D k).take (frontOf (picks.getD 0 0)).toNat ++ (pl k.toNat).drop (frontOf (picks.getD 0 0)).toNat
  | 1, _, h0, _ => by
    show (if k.toNat = (ks.getD 0 0).toNat then (bufAt D (ks.getD 0 0)).take (frontOf (picks.getD 0 0)).toNat ++ (pl k.toNat).drop (frontOf (picks.getD 0 0)).toNat else pl k.toNat) = _
    rw [h0, if_pos rfl]
  | i + 2, _, h0, h => by
    show (if k.toNat = (ks.getD (i + 1) 0).toNat then _ else crashTo D picks ks pl (i + 1) k.toNat) = _
    rw [if_neg (fun e => h (i + 1) (by omega) (by omega) e.symm)]
    exact crashTo_first D picks ks pl k (i + 1) (by omega) h0 (fun m hm hm2 => h m hm (by omega))

/-- Rising numbers, none twice, nought among them, none below it: nought is the first, and no other one is nought. -/
theorem first_nought {ks : List Int} (hs : ks.Pairwise (· ≤ ·)) (hn : ks.Nodup) (h0 : (0 : Int) ∈ ks) (hlo : ∀ x ∈ ks, 0 ≤ x) : ks.getD 0 0 = 0 ∧ ∀ m, 0 < m → m < ks.length → (ks.getD m 0).toNat ≠ (0 : Int).toNat := by
  cases ks with
  | nil => cases h0
  | cons x r =>
    have hx : x = 0 := by
      have h1 := hlo x (by simp)
      rcases List.mem_cons.1 h0 with h | h
      · exact h.symm
      · have := (List.pairwise_cons.1 hs).1 0 h
        omega
    refine ⟨by simpa using hx, fun m hm hml => ?_⟩
    obtain ⟨i, rfl⟩ : ∃ i, m = i + 1 := ⟨m - 1, by omega⟩
    have hi : i < r.length := by simpa using hml
    have e : (x :: r).getD (i + 1) 0 = r[i] := by simp [hi]
    rw [e]
    have hmem : r[i] ∈ r := List.getElem_mem hi
    have hne : r[i] ≠ 0 := fun e0 => (List.nodup_cons.1 hn).1 (by rw [hx, ← e0]; exact hmem)
    have := hlo r[i] (List.mem_cons_of_mem _ hmem)
    simp
    omega

/-- The numbers of a buffer: none twice. -/
theorem keys_nodup {w : World} {mb nn : Nat} {D : DataW (List Int)} (h : w.ownsMap Try.prog 3 secR mb nn D) : (intKeys D).Nodup := by
  obtain ⟨es, rfl, hp, _⟩ := h.entries int_key
  have hk : ∀ p ∈ es, ∃ x, p.1 = Lit.int .i64 x := by
    intro p hpm
    obtain ⟨es0, clock, hb, F, _, hD⟩ := h
    simp only [DataW.map.injEq] at hD
    rw [hD, mem_sorted] at hpm
    obtain ⟨e, he, rfl⟩ := List.mem_map.1 hpm
    obtain ⟨y, hy⟩ := F.reads e he
    obtain ⟨z, _, e2, _⟩ := Maps.keyOf_int_inv Try.underlying3 (WideElems.rd_key hy)
    exact ⟨z, by rw [WideElems.rg_of hy, e2]⟩
  simp only [intKeys]
  rw [List.nodup_iff_pairwise_ne, List.pairwise_map]
  refine hp.imp_of_mem (fun {a b} ha hb hne he => hne ?_)
  obtain ⟨x, hx⟩ := hk a ha
  obtain ⟨y, hy⟩ := hk b hb
  rw [hx, hy] at he ⊢
  have : x = y := he
  rw [this]
end Go.Proofs.Ytcnejanckolklaa
