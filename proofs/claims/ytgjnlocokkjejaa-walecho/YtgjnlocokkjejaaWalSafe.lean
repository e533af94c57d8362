/-
  A LOG IS SAFE: wherever the disk stops within a commit, or within what an opening does, whatever a crash leaves is the old state, or the new one, at rest or due.
-/
import Derived.Test.YtgjnlocokkjejaaWalCrash
namespace Go.Proofs.Ytgjnlocokkjejaa
open Go.RowKit Go.Maps

def apAll (σ : Dsk) (r : List DOp) : Dsk := r.foldl Dsk.ap σ
theorem apAll_append (σ : Dsk) (a b : List DOp) : apAll σ (a ++ b) = apAll (apAll σ a) b := by simp [apAll, List.foldl_append]
theorem apAll_newest (r : List DOp) : ∀ σ : Dsk, (apAll σ r).newest = r.foldl nw σ.newest := by
  induction r with
  | nil => intro σ; rfl
  | cons o r ih => intro σ; show (apAll (σ.ap o) r).newest = _; rw [ih, newest_ap]; rfl
theorem run_all : ∀ (r : List DOp) {σ σ1 : Dsk}, σ.run r = (σ1, true) → σ1 = apAll σ r
  | [], σ, σ1, h => by simp [Dsk.run] at h; rw [h]; rfl
  | o :: r, σ, σ1, h => by
    by_cases hs : σ.left = 1
    · rw [Dsk.run_stop hs] at h; cases h
    · rw [Dsk.run_go hs] at h
      exact run_all r h

/-- Safe ahead of each operation. -/
def SafeAll (n : Nat) (A : (Nat → List Int) → Int → Prop) : Dsk → List DOp → Prop
  | _, [] => True
  | σ, o :: r => SafeP n σ A ∧ SafeAll n A (σ.ap o) r
theorem safe_dies {n : Nat} {A : (Nat → List Int) → Int → Prop} : ∀ (r : List DOp) {σ σ1 : Dsk}, SafeAll n A σ r → σ.run r = (σ1, false) → SafeP n σ1 A
  | [], σ, σ1, _, h => by simp [Dsk.run] at h
  | o :: r, σ, σ1, hs, h => by
    by_cases hl : σ.left = 1
    · rw [Dsk.run_stop hl] at h
      cases h
      exact hs.1
    · rw [Dsk.run_go hl] at h
      exact safe_dies r hs.2 h
theorem safe_append {n : Nat} {A : (Nat → List Int) → Int → Prop} (a b : List DOp) : ∀ σ : Dsk, SafeAll n A σ a → SafeAll n A (apAll σ a) b → SafeAll n A σ (a ++ b) := by
  induction a with
  | nil => intro σ _ h; exact h
  | cons o r ih => intro σ h1 h2; exact ⟨h1.1, ih (σ.ap o) h1.2 h2⟩
theorem safe_inv {n : Nat} {A : (Nat → List Int) → Int → Prop} (I : Dsk → Prop) (hs : ∀ σ, I σ → SafeP n σ A) : ∀ (r : List DOp) (σ : Dsk), (∀ o ∈ r, ∀ τ, I τ → I (τ.ap o)) → I σ → SafeAll n A σ r ∧ I (apAll σ r)
  | [], σ, _, h => ⟨trivial, h⟩
  | o :: r, σ, hst, h => by
    obtain ⟨h1, h2⟩ := safe_inv I hs r (σ.ap o) (fun o' ho' => hst o' (by simp [ho'])) (hst o (by simp) σ h)
    exact ⟨⟨hs σ h, h1⟩, h2⟩
theorem SafeP.more {n : Nat} {σ : Dsk} {A A' : (Nat → List Int) → Int → Prop} (h : SafeP n σ A) (ha : ∀ U s, A U s → A' U s) : SafeP n σ A' := fun p hp => by
  obtain ⟨U, s, h1, h2⟩ := h p hp
  exact ⟨U, s, ha U s h1, h2⟩
theorem SafeAll.more {n : Nat} {A A' : (Nat → List Int) → Int → Prop} (ha : ∀ U s, A U s → A' U s) : ∀ (r : List DOp) {σ : Dsk}, SafeAll n A σ r → SafeAll n A' σ r
  | [], _, _ => trivial
  | _ :: r, _, h => ⟨h.1.more ha, SafeAll.more ha r h.2⟩

theorem torn_get (a b : List Int) (f j : Nat) (hf : f ≤ a.length) : (a.take f ++ b.drop f).getD j 0 = if j < f then a.getD j 0 else b.getD j 0 := by
  simp only [List.getD_eq_getElem?_getD, List.getElem?_append, List.getElem?_take, List.getElem?_drop, List.length_take, Nat.min_eq_left hf]
  by_cases h : j < f
  · rw [if_pos h, if_pos h, if_pos h]
  · rw [if_neg h, if_neg h, show f + (j - f) = j by omega]
theorem torn_take_new (a b : List Int) (f : Nat) (hf : f ≤ a.length) (h8 : 8 ≤ f) : (a.take f ++ b.drop f).take 8 = a.take 8 := by
  rw [List.take_append_of_le_length (by simp; omega), List.take_take, Nat.min_eq_left h8]
theorem torn_take_same (a b : List Int) (f : Nat) (h : a.take 8 = b.take 8) (hf : f ≤ a.length) : (a.take f ++ b.drop f).take 8 = b.take 8 := by
  by_cases h8 : 8 ≤ f
  · rw [torn_take_new a b f hf h8, h]
  · have e : a.take f = b.take f := by
      have := congrArg (List.take f) h
      rwa [List.take_take, List.take_take, Nat.min_eq_left (by omega)] at this
    rw [e, List.take_append_drop]

section
variable {n : Nat} {U U' : Nat → List Int} {s : Int} {m : Nat}

theorem IdleP.of_same {p q : Nat → List Int} (h : IdleP n p U s) (h0 : q 0 = p 0) (hu : ∀ k, 42 ≤ k → k < n → q k = p k) : IdleP n q U s :=
  ⟨by rw [h0]; exact h.state, by rw [h0]; exact h.seq, fun k h1 h2 => (hu k h1 h2).trans (h.user k h1 h2)⟩
theorem DueP.of_same {p q : Nat → List Int} (h : DueP n p U s m) (hl : ∀ k, k < 42 → q k = p k) (hu : ∀ k, 42 ≤ k → k < n → (∀ j, j < m → num (p 1) j ≠ k) → q k = p k) : DueP n q U s m := by
  have h0 := hl 0 (by decide)
  have h1 := hl 1 (by decide)
  have hf := h.few
  exact ⟨by rw [h0]; exact h.state, by rw [h0]; exact h.top, by rw [h1]; exact h.count, h.few, by rw [h1]; exact h.seq, by rw [h1]; exact h.nums, fun j hj => by rw [h1, hl (2 + j) (by omega)]; exact h.data j hj, fun k a b c => by
    rw [h1] at c
    exact (hu k a b c).trans (h.user k a b c)⟩

/-- What settle asks of the disk, from a platter on which a commit is due. -/
theorem tail_safe {σ : Dsk} (hb : σ.bf = fun _ => none) (h : DueP n σ.pl U s m) (hM : (σ.pl 0).length = 128) (hs0 : 0 ≤ s) (hs1 : s < 1000000) :
    SafeAll n (fun V t => V = U ∧ t = s) σ (dueOps σ (σ.newest 1) m) ∧ (apAll σ (dueOps σ (σ.newest 1) m)).bf = (fun _ => none) ∧ IdleP n (apAll σ (dueOps σ (σ.newest 1) m)).pl U s ∧ ((apAll σ (dueOps σ (σ.newest 1) m)).pl 0).length = 128 := by
  have hnew : ∀ k, σ.newest k = σ.pl k := fun k => by simp [Dsk.newest, hb]
  have hf := h.few
  have hL : σ.newest 1 = σ.pl 1 := hnew 1
  have hle : le ((σ.newest 1).take 8) = s := by rw [hL, h.seq, le_enc8 s hs0 (by omega)]
  rw [dueOps, hle, hL]
  -- the user's sectors
  obtain ⟨sa, ia⟩ := safe_inv (n := n) (A := fun V t => V = U ∧ t = s) (fun τ => τ.pl = σ.pl ∧ ∀ j, τ.bf j ≠ none → ∃ i, i < m ∧ j = num (σ.pl 1) i)
    (fun τ ⟨h1, h2⟩ p hp => by
      refine ⟨U, s, ⟨rfl, rfl⟩, Or.inr ⟨m, h.of_same (fun k hk => ?_) (fun k a b c => ?_)⟩⟩
      · have hn : τ.bf k = none := by
          cases hc : τ.bf k with
          | none => rfl
          | some l =>
            obtain ⟨i, hi, e⟩ := h2 k (by rw [hc]; simp)
            have := (h.nums i hi).1
            omega
        rw [(hp k).1 hn, h1]
      · have hn : τ.bf k = none := by
          cases hc : τ.bf k with
          | none => rfl
          | some l =>
            obtain ⟨i, hi, e⟩ := h2 k (by rw [hc]; simp)
            exact absurd e.symm (c i hi)
        rw [(hp k).1 hn, h1])
    (carryOps σ (σ.pl 1) m) σ (fun o ho τ ⟨h1, h2⟩ => by
      obtain ⟨i, hi, rfl⟩ := List.mem_map.1 ho
      refine ⟨h1, fun j hj => ?_⟩
      by_cases e : j = num (σ.pl 1) i
      · exact ⟨i, by simpa using hi, e⟩
      · exact h2 j (by simpa [Dsk.ap, e] using hj)) ⟨rfl, fun j hj => absurd (by rw [hb]) hj⟩
  have hsC : SafeP n (apAll σ (carryOps σ (σ.pl 1) m)) (fun V t => V = U ∧ t = s) := fun p hp => by
    refine ⟨U, s, ⟨rfl, rfl⟩, Or.inr ⟨m, h.of_same (fun k hk => ?_) (fun k a b c => ?_)⟩⟩
    · have hn : (apAll σ (carryOps σ (σ.pl 1) m)).bf k = none := by
        cases hc : (apAll σ (carryOps σ (σ.pl 1) m)).bf k with
        | none => rfl
        | some l =>
          obtain ⟨i, hi, e⟩ := ia.2 k (by rw [hc]; simp)
          have := (h.nums i hi).1
          omega
      rw [(hp k).1 hn, ia.1]
    · have hn : (apAll σ (carryOps σ (σ.pl 1) m)).bf k = none := by
        cases hc : (apAll σ (carryOps σ (σ.pl 1) m)).bf k with
        | none => rfl
        | some l =>
          obtain ⟨i, hi, e⟩ := ia.2 k (by rw [hc]; simp)
          exact absurd e.symm (c i hi)
      rw [(hp k).1 hn, ia.1]
  -- what is newest then
  have hnE : ∀ i, i ≤ m → ∀ k, ((k < 42 → (carryOps σ (σ.pl 1) i).foldl nw σ.newest k = σ.pl k) ∧ ((∃ j, j < i ∧ num (σ.pl 1) j = k) → (carryOps σ (σ.pl 1) i).foldl nw σ.newest k = U k) ∧ ((∀ j, j < i → num (σ.pl 1) j ≠ k) → (carryOps σ (σ.pl 1) i).foldl nw σ.newest k = σ.pl k)) := by
    intro i
    induction i with
    | zero => intro _ k; exact ⟨fun _ => hnew k, fun ⟨j, hj, _⟩ => by omega, fun _ => hnew k⟩
    | succ i ih =>
      intro hi k
      obtain ⟨a, b, c⟩ := ih (by omega) k
      have hnum := h.nums i (by omega)
      rw [carryOps_succ, List.foldl_append]
      simp only [List.foldl_cons, List.foldl_nil, nw]
      by_cases e : k = num (σ.pl 1) i
      · rw [if_pos e]
        have hv : σ.newest (2 + i) = U k := by rw [hnew, h.data i (by omega), e]
        exact ⟨fun hk => by omega, fun _ => hv, fun hno => absurd e.symm (hno i (by omega))⟩
      · rw [if_neg e]
        refine ⟨a, fun ⟨j, hj, ej⟩ => b ⟨j, ?_, ej⟩, fun hno => c (fun j hj => hno j (by omega))⟩
        by_cases ee : j = i
        · subst ee; exact absurd ej.symm e
        · omega
  obtain ⟨E, hE⟩ : ∃ E, apAll σ (carryOps σ (σ.pl 1) m ++ [.f]) = E := ⟨_, rfl⟩
  have hEb : E.bf = fun _ => none := by rw [← hE, apAll_append]; rfl
  have hEp : E.pl = (carryOps σ (σ.pl 1) m).foldl nw σ.newest := by
    rw [← hE, apAll_append]
    show (apAll σ (carryOps σ (σ.pl 1) m)).newest = _
    rw [apAll_newest]
  have hEl : ∀ k, k < 42 → E.pl k = σ.pl k := fun k hk => by rw [hEp]; exact (hnE m (Nat.le_refl _) k).1 hk
  have hEu : ∀ k, 42 ≤ k → k < n → E.pl k = U k := fun k h1 h2 => by
    rw [hEp]
    by_cases e : ∃ j, j < m ∧ num (σ.pl 1) j = k
    · exact (hnE m (Nat.le_refl _) k).2.1 e
    · rw [(hnE m (Nat.le_refl _) k).2.2 (fun j hj ej => e ⟨j, hj, ej⟩)]
      exact h.user k h1 h2 (fun j hj ej => e ⟨j, hj, ej⟩)
  have hDE : DueP n E.pl U s m := h.of_same hEl (fun k h1 h2 h3 => (hEu k h1 h2).trans (h.user k h1 h2 h3).symm)
  have hE0 : (E.pl 0).length = 128 := by rw [hEl 0 (by decide)]; exact hM
  have hms : (markOf s 0).length = 128 := (markOf_sec s 0 (by decide) (by decide)).1
  have hsE : SafeP n E (fun V t => V = U ∧ t = s) := fun p hp => ⟨U, s, ⟨rfl, rfl⟩, Or.inr ⟨m, hDE.of_same (fun k _ => (hp k).1 (by rw [hEb])) (fun k _ _ _ => (hp k).1 (by rw [hEb]))⟩⟩
  have hsF : SafeP n (E.ap (.w 0 (markOf s 0))) (fun V t => V = U ∧ t = s) := fun p hp => by
    have hoth : ∀ k, k ≠ 0 → p k = E.pl k := fun k hk => (hp k).1 (by simp [Dsk.ap, hk, hEb])
    obtain ⟨f, hf128, e0⟩ := (hp 0).2 (markOf s 0) (by simp [Dsk.ap])
    have e0 : p 0 = (markOf s 0).take f ++ (E.pl 0).drop f := e0
    refine ⟨U, s, ⟨rfl, rfl⟩, ?_⟩
    by_cases h9 : 9 ≤ f
    · left
      refine ⟨?_, ?_, fun k h1 h2 => (hoth k (by omega)).trans (hEu k h1 h2)⟩
      · rw [e0, torn_get _ _ _ _ (by omega), if_pos (by omega), mark_state]; decide
      · rw [e0, torn_take_new _ _ _ (by omega) (by omega), mark_take]
    · right
      have h1 := hoth 1 (by decide)
      refine ⟨m, ⟨?_, ?_, by rw [h1]; exact hDE.count, hDE.few, by rw [h1]; exact hDE.seq, by rw [h1]; exact hDE.nums, fun j hj => by rw [h1, hoth (2 + j) (by omega)]; exact hDE.data j hj, fun k a b c => by rw [hoth k (by omega)]; exact hEu k a b⟩⟩
      · rw [e0, torn_get _ _ _ _ (by omega), if_neg (by omega)]; exact hDE.state
      · rw [e0, torn_get _ _ _ _ (by omega)]
        split
        · have h7 : (markOf s 0).getD 7 0 = (enc 8 s).getD 7 0 := by
            rw [← mark_take s 0]
            simp [List.getD]
          rw [h7]
          have : (enc 8 s).getD 7 0 = s / 2 ^ 56 % 256 := by simp [enc, List.getD]
          rw [this]
          have : (2 : Int) ^ 56 = 72057594037927936 := by decide
          omega
        · exact hDE.top
  refine ⟨?_, ?_, ?_, ?_⟩
  · refine safe_append _ _ σ (safe_append _ _ σ sa ⟨hsC, trivial⟩) ?_
    rw [hE]
    exact ⟨hsE, hsF, trivial⟩
  · rw [apAll_append, hE]; rfl
  · rw [apAll_append, hE]
    have hp : ∀ k, (apAll E [.w 0 (markOf s 0), .f]).pl k = if k = 0 then markOf s 0 else E.pl k := fun k => by
      show ((E.ap (.w 0 (markOf s 0))).newest) k = _
      rw [newest_ap]
      simp only [nw]
      by_cases e : k = 0
      · rw [if_pos e, if_pos e]
      · rw [if_neg e, if_neg e]; simp [Dsk.newest, hEb]
    refine ⟨?_, ?_, fun k h1 h2 => ?_⟩
    · rw [hp 0, if_pos rfl, mark_state]; decide
    · rw [hp 0, if_pos rfl, mark_take]
    · rw [hp k, if_neg (by omega)]; exact hEu k h1 h2
  · rw [apAll_append, hE]
    show ((E.ap (.w 0 (markOf s 0))).newest 0).length = 128
    rw [Dsk.newest_w_same, hms]

theorem enc_top (s : Int) (h0 : 0 ≤ s) (h1 : s < 1000000) (st : Int) : (markOf s st).getD 7 0 < 128 := by
  have h7 : (markOf s st).getD 7 0 = (enc 8 s).getD 7 0 := by
    rw [← mark_take s st]
    simp [List.getD]
  rw [h7]
  have e : (enc 8 s).getD 7 0 = s / 2 ^ 56 % 256 := by simp [enc, List.getD]
  rw [e]
  have : (2 : Int) ^ 56 = 72057594037927936 := by decide
  omega

/-- What a commit asks of the disk. -/
theorem commit_safe {σ : Dsk} {ps : List PutV} (hb : σ.bf = fun _ => none) (h : IdleP n σ.pl U s) (hg : GoodPuts n ps) (hN : n ≤ 4096) (hs0 : 0 ≤ s) (hs1 : s < 900000) :
    SafeAll n (fun V t => (V = U ∧ t = s) ∨ (V = afterPuts U ps ∧ t = s + 1)) σ (commitOps s ps) ∧ (apAll σ (commitOps s ps)).bf = (fun _ => none) ∧ IdleP n (apAll σ (commitOps s ps)).pl (afterPuts U ps) (s + 1) ∧ ((apAll σ (commitOps s ps)).pl 0).length = 128 := by
  have hm := hg.few
  have hnew : ∀ k, σ.newest k = σ.pl k := fun k => by simp [Dsk.newest, hb]
  have hgd : ∀ j, j < ps.length → (ps.getD j zPV) ∈ ps := fun j hj => by
    rw [show ps.getD j zPV = ps[j] by simp [List.getD, hj]]
    exact List.getElem_mem _
  obtain ⟨sa, ia⟩ := safe_inv (n := n) (A := fun V t => (V = U ∧ t = s) ∨ (V = afterPuts U ps ∧ t = s + 1)) (fun τ => τ.pl 0 = σ.pl 0 ∧ (∀ k, 42 ≤ k → τ.pl k = σ.pl k) ∧ τ.bf 0 = none ∧ ∀ k, 42 ≤ k → τ.bf k = none)
    (fun τ ⟨h1, h2, h3, h4⟩ p hp => ⟨U, s, Or.inl ⟨rfl, rfl⟩, Or.inl (h.of_same (by rw [(hp 0).1 h3, h1]) (fun k a _ => by rw [(hp k).1 (h4 k a), h2 k a]))⟩)
    (enterOps (s + 1) ps) σ (fun o ho τ ⟨h1, h2, h3, h4⟩ => by
      have key : ∀ k l, 0 < k → k < 42 → o = .w k l → (τ.ap o).pl 0 = σ.pl 0 ∧ (∀ k, 42 ≤ k → (τ.ap o).pl k = σ.pl k) ∧ (τ.ap o).bf 0 = none ∧ ∀ k, 42 ≤ k → (τ.ap o).bf k = none := by
        rintro k l k0 k1 rfl
        refine ⟨h1, h2, ?_, fun j hj => ?_⟩
        · simp only [Dsk.ap]; rw [if_neg (by omega)]; exact h3
        · simp only [Dsk.ap]; rw [if_neg (by omega)]; exact h4 j hj
      simp only [enterOps, List.mem_append, List.mem_singleton] at ho
      rcases ho with ho | rfl | rfl
      · obtain ⟨j, hj, rfl⟩ := List.mem_map.1 ho
        have : j < ps.length := by simpa using hj
        exact key (2 + j) _ (by omega) (by omega) rfl
      · exact key 1 _ (by decide) (by decide) rfl
      · refine ⟨?_, fun k hk => ?_, rfl, fun _ _ => rfl⟩
        · show τ.newest 0 = _
          simp [Dsk.newest, h3, h1]
        · show τ.newest k = _
          simp [Dsk.newest, h4 k hk, h2 k hk]) ⟨rfl, fun _ _ => rfl, by rw [hb], fun _ _ => by rw [hb]⟩
  obtain ⟨E, hE⟩ : ∃ E, apAll σ (enterOps (s + 1) ps) = E := ⟨_, rfl⟩
  rw [hE] at ia
  have hEb : E.bf = fun _ => none := by
    rw [← hE, enterOps, ← List.append_assoc, apAll_append]; rfl
  have hEp : ∀ k, E.pl k = if k = 1 then listTo (s + 1) ps ps.length else if 2 ≤ k ∧ k < 2 + ps.length then (ps.getD (k - 2) zPV).bytes else σ.pl k := fun k => by
    have e1 : E.newest k = E.pl k := by simp [Dsk.newest, hEb]
    rw [← e1, ← hE, apAll_newest, newest_enter]
    simp only [hnew]
  have hafter : ∀ j, j < ps.length → afterPuts U ps (ps.getD j zPV).N = (ps.getD j zPV).bytes := fun j hj =>
    userFold_some ps U _ j rfl ps.length hj (fun i hi hji => by
      have h1 : ps.getD i zPV = ps[i] := by simp [List.getD, hi]
      have h2 : ps.getD j zPV = ps[j] := by simp [List.getD, hj]
      rw [h1, h2]
      exact fun e => hg.apart j i _ _ (List.getElem?_eq_getElem hj) (List.getElem?_eq_getElem hi) hji e.symm)
  have hE1 : E.pl 1 = listTo (s + 1) ps ps.length := by rw [hEp, if_pos rfl]
  have hnum : ∀ j, j < ps.length → num (E.pl 1) j = (ps.getD j zPV).N := fun j hj => by
    rw [hE1]
    exact list_num _ _ _ hm j hj (by have := hg.range _ (hgd j hj); omega)
  have due : ∀ p : Nat → List Int, (p 0).getD 8 0 = 1 → (p 0).getD 7 0 < 128 → (∀ k, k ≠ 0 → p k = E.pl k) → DueP n p (afterPuts U ps) (s + 1) ps.length := fun p p8 p7 po => by
    have p1 := po 1 (by decide)
    refine ⟨p8, p7, by rw [p1, hE1, list_count _ _ _ hm], hm, by rw [p1, hE1, list_take _ _ _ hm], fun j hj => by rw [p1, hnum j hj]; exact hg.range _ (hgd j hj), fun j hj => ?_, fun k a b c => ?_⟩
    · rw [p1, hnum j hj, hafter j hj, po (2 + j) (by omega), hEp, if_neg (by omega), if_pos (by omega), show 2 + j - 2 = j by omega]
    · rw [po k (by omega), ia.2.1 k a, h.user k a b]
      rw [p1] at c
      exact (userFold_none ps U k ps.length (fun j hj => by rw [← hnum j hj]; exact c j hj)).symm
  have hms : (markOf s 1).length = 128 := (markOf_sec s 1 (by decide) (by decide)).1
  have hsE : SafeP n E (fun V t => (V = U ∧ t = s) ∨ (V = afterPuts U ps ∧ t = s + 1)) := fun p hp => ⟨U, s, Or.inl ⟨rfl, rfl⟩, Or.inl (h.of_same (by rw [(hp 0).1 (by rw [hEb]), ia.1]) (fun k a _ => by rw [(hp k).1 (by rw [hEb]), ia.2.1 k a]))⟩
  have hsF : SafeP n (E.ap (.w 0 (markOf s 1))) (fun V t => (V = U ∧ t = s) ∨ (V = afterPuts U ps ∧ t = s + 1)) := fun p hp => by
    have hoth : ∀ k, k ≠ 0 → p k = E.pl k := fun k hk => (hp k).1 (by simp [Dsk.ap, hk, hEb])
    obtain ⟨f, hf128, e0⟩ := (hp 0).2 (markOf s 1) (by simp [Dsk.ap])
    have e0 : p 0 = (markOf s 1).take f ++ (σ.pl 0).drop f := by
      have : (E.ap (.w 0 (markOf s 1))).pl 0 = σ.pl 0 := ia.1
      rw [e0, this]
    by_cases h9 : 9 ≤ f
    · refine ⟨_, _, Or.inr ⟨rfl, rfl⟩, Or.inr ⟨ps.length, due p ?_ ?_ hoth⟩⟩
      · rw [e0, torn_get _ _ _ _ (by omega), if_pos (by omega), mark_state]
      · rw [e0, torn_get _ _ _ _ (by omega), if_pos (by omega)]
        exact enc_top s hs0 (by omega) 1
    · refine ⟨U, s, Or.inl ⟨rfl, rfl⟩, Or.inl ⟨?_, ?_, fun k a b => by rw [hoth k (by omega), ia.2.1 k a]; exact h.user k a b⟩⟩
      · rw [e0, torn_get _ _ _ _ (by omega), if_neg (by omega)]; exact h.state
      · rw [e0, torn_take_same _ _ _ (by rw [mark_take, h.seq]) (by omega), h.seq]
  obtain ⟨G, hG⟩ : ∃ G, apAll E [.w 0 (markOf s 1), .f] = G := ⟨_, rfl⟩
  have hGb : G.bf = fun _ => none := by rw [← hG]; rfl
  have hGp : ∀ k, G.pl k = if k = 0 then markOf s 1 else E.pl k := fun k => by
    rw [← hG]
    show ((E.ap (.w 0 (markOf s 1))).newest) k = _
    rw [newest_ap]
    simp only [nw]
    by_cases e : k = 0
    · rw [if_pos e, if_pos e]
    · rw [if_neg e, if_neg e]; simp [Dsk.newest, hEb]
  have hG0 : G.pl 0 = markOf s 1 := by rw [hGp, if_pos rfl]
  have hDG : DueP n G.pl (afterPuts U ps) (s + 1) ps.length := due G.pl (by rw [hG0, mark_state]) (by rw [hG0]; exact enc_top s hs0 (by omega) 1) (fun k hk => by rw [hGp, if_neg hk])
  have hGn : ∀ k, G.newest k = G.pl k := fun k => by simp [Dsk.newest, hGb]
  obtain ⟨t1, t2, t3, t4⟩ := tail_safe hGb hDG (by rw [hG0]; exact hms) (by omega) (by omega)
  rw [due_is_tail s ps hm hs0 (by omega) (fun x hx => by have := hg.range x hx; omega) (by rw [hGn, hGp, if_neg (by decide), hE1]) (fun i hi => by
    rw [hGn, hGp, if_neg (by omega), hEp, if_neg (by omega), if_pos (by omega), show 2 + i - 2 = i by omega])] at t1 t2 t3 t4
  have hall : apAll σ (commitOps s ps) = apAll G (tailOps s ps) := by
    rw [commitOps, apAll_append, hE, apAll_append, hG]
  refine ⟨?_, by rw [hall]; exact t2, by rw [hall]; exact t3, by rw [hall]; exact t4⟩
  rw [commitOps]
  refine safe_append _ _ σ sa ?_
  rw [hE]
  refine safe_append _ _ E ⟨hsE, hsF, trivial⟩ ?_
  rw [hG]
  exact t1.more (fun V t h => Or.inr h) _
end
end Go.Proofs.Ytgjnlocokkjejaa
