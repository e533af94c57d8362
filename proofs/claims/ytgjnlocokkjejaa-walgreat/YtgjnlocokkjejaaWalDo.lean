/-
  PACKAGE wal's commit: what it asks of the disk, and what the disk has then.
-/
import Derived.Test.YtgjnlocokkjejaaWalCommit
namespace Go.Proofs.Ytgjnlocokkjejaa
open Go.RowKit Go.Maps

theorem lay_ahead (l : List Int) (o : Nat) (x : List Int) (a b : Nat) (h : a + b ≤ o) (ho : o ≤ l.length) : ((lay l o x).drop a).take b = (l.drop a).take b := by
  apply List.ext_getElem?
  intro j
  simp only [List.getElem?_take, List.getElem?_drop, lay, List.append_assoc]
  by_cases hj : j < b
  · rw [if_pos hj, if_pos hj, List.getElem?_append_left (by simp; omega), List.getElem?_take, if_pos (by omega)]
  · rw [if_neg hj, if_neg hj]
theorem lay_there (l : List Int) (o : Nat) (x : List Int) (ho : o ≤ l.length) : ((lay l o x).drop o).take x.length = x := by
  have h1 : (l.take o).length = o := by simp; omega
  simp only [lay, List.append_assoc]
  rw [List.drop_append_of_le_length (by omega), List.drop_of_length_le (by omega), List.nil_append, List.take_left]
theorem lay_get (l : List Int) (o : Nat) (x : List Int) (a : Nat) (h : a < o) (ho : o ≤ l.length) : (lay l o x).getD a 0 = l.getD a 0 := by
  simp only [List.getD_eq_getElem?_getD, lay, List.append_assoc]
  rw [List.getElem?_append_left (by simp; omega), List.getElem?_take, if_pos h]

theorem start_len (s : Int) : (lay zeros 0 (enc 8 s)).length = 128 := by rw [lay_len _ _ _ (by rw [enc_len, zeros_sec.1]; decide), zeros_sec.1]
theorem start_take (s : Int) : (lay zeros 0 (enc 8 s)).take 8 = enc 8 s := by
  have := lay_there zeros 0 (enc 8 s) (by omega)
  rwa [List.drop_zero, enc_len] at this
theorem set_take (l : List Int) (v : Int) : (l.set 8 v).take 8 = l.take 8 := by
  rw [List.take_set_of_le (Nat.le_refl 8)]
theorem set_get (l : List Int) (v : Int) (h : 8 < l.length) : (l.set 8 v).getD 8 0 = v := by simp [List.getD, h]

theorem mark_state (s st : Int) : (markOf s st).getD 8 0 = st := set_get _ _ (by rw [start_len]; decide)
theorem mark_take (s st : Int) : (markOf s st).take 8 = enc 8 s := by rw [markOf, set_take, start_take]
theorem le_enc8 (s : Int) (h0 : 0 ≤ s) (h1 : s < 9223372036854775808) : le (enc 8 s) = s := by
  have h : (256 : Int) ^ 8 = 18446744073709551616 := by decide
  exact le_enc 8 s h0 (by omega)
theorem le_enc2 (s : Int) (h0 : 0 ≤ s) (h1 : s < 65536) : le (enc 2 s) = s := by
  have h : (256 : Int) ^ 2 = 65536 := by decide
  exact le_enc 2 s h0 (by omega)
theorem mark_seq (s st : Int) (h0 : 0 ≤ s) (h1 : s < 9223372036854775808) : le ((markOf s st).take 8) = s := by rw [mark_take, le_enc8 s h0 h1]

theorem list_take (s : Int) (ps : List PutV) : ∀ i, i ≤ 40 → (listTo s ps i).take 8 = enc 8 s
  | 0, _ => by rw [listTo, set_take, start_take]
  | i + 1, h => by
    rw [listTo]
    have := lay_ahead (listTo s ps i) (9 + 2 * i) (enc 2 ((ps.getD i zPV).N : Int)) 0 8 (by omega) (by rw [listTo_len _ _ _ (by omega)]; omega)
    rw [List.drop_zero, List.drop_zero] at this
    rw [this, list_take s ps i (by omega)]
theorem list_count (s : Int) (ps : List PutV) : ∀ i, i ≤ 40 → (listTo s ps i).getD 8 0 = (ps.length : Int)
  | 0, _ => by rw [listTo]; exact set_get _ _ (by rw [start_len]; decide)
  | i + 1, h => by rw [listTo, lay_get _ _ _ _ (by omega) (by rw [listTo_len _ _ _ (by omega)]; omega), list_count s ps i (by omega)]
theorem list_num (s : Int) (ps : List PutV) : ∀ i, i ≤ 40 → ∀ j, j < i → (ps.getD j zPV).N < 65536 → num (listTo s ps i) j = (ps.getD j zPV).N
  | 0, _, j, hj, _ => by omega
  | i + 1, h, j, hj, hN => by
    rw [num, listTo]
    by_cases e : j = i
    · subst e
      have := lay_there (listTo s ps j) (9 + 2 * j) (enc 2 ((ps.getD j zPV).N : Int)) (by rw [listTo_len _ _ _ (by omega)]; omega)
      rw [enc_len] at this
      rw [this, le_enc2 _ (by omega) (by omega)]
      omega
    · rw [lay_ahead _ _ _ _ _ (by omega) (by rw [listTo_len _ _ _ (by omega)]; omega)]
      exact list_num s ps i (by omega) j (by omega) hN

/-- What is newest behind an operation. -/
def nw (F : Nat → List Int) : DOp → Nat → List Int
  | some (k, l) => fun j => if j = k then l else F j
  | none => F
theorem newest_ap (σ : Dsk) (o : DOp) : (σ.ap o).newest = nw σ.newest o := by
  funext j
  cases o with
  | some x =>
    obtain ⟨k, l⟩ := x
    by_cases e : j = k
    · subst e; rw [Dsk.newest_w_same]; simp [nw]
    · rw [Dsk.newest_w _ _ _ _ e]; simp [nw, e]
  | none => rw [Dsk.newest_f]; rfl
theorem newest_run : ∀ (r : List DOp) {σ σ1 : Dsk}, σ.run r = (σ1, true) → σ1.newest = r.foldl nw σ.newest
  | [], σ, σ1, h => by simp [Dsk.run] at h; rw [h]; rfl
  | o :: r, σ, σ1, h => by
    by_cases hs : σ.left = 1
    · rw [Dsk.run_stop hs] at h; cases h
    · rw [Dsk.run_go hs] at h
      rw [newest_run r h, newest_ap]; rfl
theorem fold_data (ps : List PutV) (F : Nat → List Int) (k : Nat) : ∀ m, (dataOps ps m).foldl nw F k = if 2 ≤ k ∧ k < 2 + m then (ps.getD (k - 2) zPV).bytes else F k
  | 0 => by rw [if_neg (by omega)]; rfl
  | m + 1 => by
    rw [dataOps_succ, List.foldl_append]
    simp only [List.foldl_cons, List.foldl_nil, nw]
    by_cases e : k = 2 + m
    · rw [if_pos e, if_pos (by omega), show k - 2 = m by omega]
    · rw [if_neg e, fold_data ps F k m]
      by_cases h2 : 2 ≤ k ∧ k < 2 + m
      · rw [if_pos h2, if_pos (by omega)]
      · rw [if_neg h2, if_neg (by omega)]

/-- The user's sectors, one after another. -/
def userOps (ps : List PutV) (m : Nat) : List DOp := (List.range m).map fun i => .w (ps.getD i zPV).N (ps.getD i zPV).bytes
theorem userOps_succ (ps : List PutV) (m : Nat) : userOps ps (m + 1) = userOps ps m ++ [.w (ps.getD m zPV).N (ps.getD m zPV).bytes] := by simp [userOps, List.range_succ]
/-- From the mark on. -/
def tailOps (s : Int) (ps : List PutV) : List DOp := userOps ps ps.length ++ [.f] ++ [.w 0 (markOf (s + 1) 0), .f]
/-- What commit asks of the disk. -/
def commitOps (s : Int) (ps : List PutV) : List DOp := enterOps (s + 1) ps ++ ([.w 0 (markOf s 1), .f] ++ tailOps s ps)

/-- What is newest behind enter. -/
theorem newest_enter (s : Int) (ps : List PutV) (F : Nat → List Int) (k : Nat) : (enterOps s ps).foldl nw F k = if k = 1 then listTo s ps ps.length else if 2 ≤ k ∧ k < 2 + ps.length then (ps.getD (k - 2) zPV).bytes else F k := by
  rw [enterOps, List.foldl_append]
  simp only [List.foldl_cons, List.foldl_nil, List.cons_append, List.nil_append, nw]
  by_cases e : k = 1
  · rw [if_pos e, if_pos e]
  · rw [if_neg e, if_neg e, fold_data]

theorem due_is_tail {σ : Dsk} (s : Int) (ps : List PutV) (hm : ps.length ≤ 40) (hs0 : 0 ≤ s) (hs1 : s < 1000000) (hN : ∀ x ∈ ps, x.N < 4096) (h1 : σ.newest 1 = listTo (s + 1) ps ps.length) (h2 : ∀ i, i < ps.length → σ.newest (2 + i) = (ps.getD i zPV).bytes) :
    dueOps σ (σ.newest 1) ps.length = tailOps s ps := by
  unfold dueOps tailOps carryOps userOps
  rw [h1, list_take _ _ _ hm, le_enc8 _ (by omega) (by omega)]
  congr 2
  apply List.map_congr_left
  intro i hi
  have hi' : i < ps.length := by simpa using hi
  have hx : (ps.getD i zPV) ∈ ps := by
    rw [show ps.getD i zPV = ps[i] by simp [List.getD, hi']]
    exact List.getElem_mem _
  rw [list_num _ _ _ hm i hi' (by have := hN _ hx; omega), h2 i hi']

section
variable {w w' : World} {lb db pb mb n B B' : Nat} {σ σ' : Dsk} {s : Int}
set_option maxHeartbeats 2000000 in
theorem commit_any {s0 : Int} (h : LogIs w lb db pb mb n B σ s0) (hd : σ.dead = false) (hn : 42 < n) (hB : B < 500000) (pk cap : Nat) (ps : List PutV) (hp : PutsAt w pk ps) (hpk : pk ∉ [db, pb, mb, lb]) (hpb : ∀ x ∈ ps, x.b ∉ [db, pb, mb, lb]) (hm : ps.length ≤ 40) (hN : ∀ x ∈ ps, 42 ≤ x.N ∧ x.N < n)
    (hi : (σ.newest 0).getD 8 0 ≠ 1) (hs : le ((σ.newest 0).take 8) = s) (hs0 : 0 ≤ s) (hs1 : s < 999999) :
    Calls Try.prog 47 #[.pointer (some ⟨lb, 0, none⟩), .slice (some ⟨pk, 0, none⟩) ps.length cap] w fun e w' =>
      e = endOf (σ.run (commitOps s ps)).2 ∧ (∃ s1, LogIs w' lb db pb mb n (B + 90) (σ.run (commitOps s ps)).1 s1) ∧ Kept [db, pb, mb, lb] w w' := by
  have hn2 := h.disk.nhi
  have cS := settle_idle h hd hn hi (by omega)
  rw [hs] at cS
  simp only [endOf_true] at cS
  obtain ⟨m, hml⟩ : ∃ m, ps.length = m := ⟨_, rfl⟩
  rw [hml]
  go_enter Try.func47, Try.ntmps47
  go_wp2_with fail
  refine cS.mono ?_
  rintro e w1 ⟨rfl, L1, k1⟩
  clear cS
  have hp1 := hp.kept k1 (by simp at hpk ⊢; omega) (fun x hx => by have := hpb x hx; simp at this ⊢; omega)
  have cE := enter_any L1 hd hn (by omega) pk cap ps hp1 hpk hpb hm hs0 (by omega)
  rw [hml] at cE
  go_wp2_with fail
  obtain ⟨⟨σ1, ok1⟩, hr1⟩ : ∃ x, σ.run (enterOps (s + 1) ps) = x := ⟨_, rfl⟩
  rw [hr1] at cE
  cases ok1 with
  | false =>
    simp only [endOf_false] at cE
    refine cE.mono ?_
    rintro e w2 ⟨rfl, L2, k2⟩
    refine (show _ ∧ _ from ⟨rfl, ?_⟩)
    rw [commitOps, Dsk.run_two_dead _ hr1]
    exact ⟨rfl, ⟨s, L2.mono (by omega)⟩, (k1.mono (by simp)).trans (k2.mono (by simp))⟩
  | true =>
    simp only [endOf_true] at cE
    refine cE.mono ?_
    rintro e w2 ⟨rfl, L2, k2⟩
    clear cE
    have c22 := L2.c2
    have hd1 := (Dsk.run_alive _ hr1).trans hd
    have cM := mark_any L2 hd1 hn (by omega) s 1 (by decide) (by decide)
    go_wp2_with fail
    obtain ⟨⟨σ2, ok2⟩, hr2⟩ : ∃ x, σ1.run [.w 0 (markOf s 1), .f] = x := ⟨_, rfl⟩
    rw [hr2] at cM
    have k02 : Kept [db, pb, mb, lb] w w2 := (k1.mono (by simp)).trans (k2.mono (by simp))
    cases ok2 with
    | false =>
      simp only [endOf_false] at cM
      refine cM.mono ?_
      rintro e w3 ⟨rfl, L3, k3⟩
      refine (show _ ∧ _ from ⟨rfl, ?_⟩)
      rw [commitOps, Dsk.run_two hr1, Dsk.run_two_dead _ hr2]
      exact ⟨rfl, ⟨s, L3.mono (by omega)⟩, k02.trans (k3.mono (by simp))⟩
    | true =>
      simp only [endOf_true] at cM
      refine cM.mono ?_
      rintro e w3 ⟨rfl, L3, k3⟩
      clear cM c22
      have hd2 := (Dsk.run_alive _ hr2).trans hd1
      have n2 : ∀ k, σ2.newest k = if k = 0 then markOf s 1 else (enterOps (s + 1) ps).foldl nw σ.newest k := by
        intro k
        rw [newest_run _ hr2, newest_run _ hr1]
        simp only [List.foldl_cons, List.foldl_nil, nw]
      have n20 : σ2.newest 0 = markOf s 1 := by rw [n2]; rfl
      have n21 : σ2.newest 1 = listTo (s + 1) ps ps.length := by rw [n2, if_neg (by decide), newest_enter, if_pos rfl]
      have n22 : ∀ i, i < ps.length → σ2.newest (2 + i) = (ps.getD i zPV).bytes := by
        intro i hi
        rw [n2, if_neg (by omega), newest_enter, if_neg (by omega), if_pos (by omega), show 2 + i - 2 = i by omega]
      have hgd : ∀ j, j < ps.length → (ps.getD j zPV) ∈ ps := by
        intro j hj
        rw [show ps.getD j zPV = ps[j] by simp [List.getD, hj]]
        exact List.getElem_mem _
      have cD := settle_due L3 hd2 hn (by omega) (by rw [n20, mark_state]) (by rw [n20, mark_seq s 1 hs0 (by omega)]; omega) ps.length (by rw [n21, list_count _ _ _ hm]) hm
        (by rw [n21, list_take _ _ _ hm, le_enc8 _ (by omega) (by omega)]; omega)
        (fun j hj => by
          rw [n21, list_num _ _ _ hm j hj (by have := hN _ (hgd j hj); omega)]
          exact hN _ (hgd j hj))
      rw [due_is_tail s ps hm hs0 (by omega) (fun x hx => by have := hN x hx; omega) n21 n22] at cD
      have hall : σ.run (commitOps s ps) = σ2.run (tailOps s ps) := by rw [commitOps, Dsk.run_two hr1, Dsk.run_two hr2]
      clear n2 n20 n21 n22 hgd hN hpb hp1 hp
      go_wp2_with fail
      obtain ⟨⟨σ3, ok3⟩, hr3⟩ : ∃ x, σ2.run (tailOps s ps) = x := ⟨_, rfl⟩
      rw [hr3] at cD hall
      cases ok3 with
      | false =>
        simp only [endOf_false] at cD
        refine cD.mono ?_
        rintro e w4 ⟨rfl, L4, k4⟩
        refine (show _ ∧ _ from ⟨rfl, ?_⟩)
        rw [hall]
        exact ⟨rfl, ⟨_, L4.mono (by omega)⟩, (k02.trans (k3.mono (by simp))).trans k4⟩
      | true =>
        simp only [endOf_true] at cD
        refine cD.mono ?_
        rintro e w4 ⟨rfl, L4, k4⟩
        go_wp2
        go_end0
        rw [hall]
        exact ⟨rfl, ⟨_, L4.mono (by omega)⟩, (k02.trans (k3.mono (by simp))).trans k4⟩
end
end Go.Proofs.Ytgjnlocokkjejaa
