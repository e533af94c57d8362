/-
  TREES THAT ARE GROWN, in plain words: the first nodes of a config, lists of grants such as may be, nodes put upon them.
-/
import Derived.Test.YtajondkpdgiolaaTreePure
import Derived.Test.YtajondkpdgiolaaLPathOf
namespace Go.Proofs.Ytajondkpdgiolaa
open Go.RowKit
set_option maxRecDepth 8000
set_option linter.unusedSimpArgs false
set_option linter.unusedVariables false

/-! What may be. -/
theorem chkL_zero {l : Lab} : chkL l = 0 ↔ GL l := by
  unfold chkL okL
  constructor
  · intro h
    split at h
    · rename_i h1
      simp only [inB, Bool.and_eq_true, decide_eq_true_eq] at h1
      constructor <;> omega
    · cases h
  · intro h
    obtain ⟨a, b, c, d, e, f, g, i⟩ := h
    rw [if_pos]
    simp only [inB, Bool.and_eq_true, decide_eq_true_eq]
    omega
theorem nodC_zero {x : Nod} : nodC x = 0 ↔ checkOf x.path = 0 ∧ GL x.label ∧ GL x.by_ ∧ chkA x.acl = 0 ∧ (x.dir = true → rz x = true ∧ x.words.length = 0) ∧ (x.dir = false → x.path ≠ slashS ∧ OkR x.rg ∧ x.words.length ≤ 16) := by
  rw [← chkL_zero, ← chkL_zero]
  have hr : chkR x.rg = 0 ↔ OkR x.rg := by
    unfold chkR
    by_cases q : OkR x.rg
    · rw [if_pos q]; exact ⟨fun _ => q, fun _ => rfl⟩
    · rw [if_neg q]; exact ⟨fun e => absurd e (by decide), fun e => absurd e q⟩
  unfold nodC
  by_cases h1 : checkOf x.path = 0
  · by_cases h2 : chkL x.label = 0
    · by_cases h3 : chkL x.by_ = 0
      · by_cases h4 : chkA x.acl = 0
        · rw [if_neg (by simp [h1]), if_neg (by simp [h2]), if_neg (by simp [h3]), if_neg (by simp [h4])]
          simp only [h1, h2, h3, h4, true_and]
          cases hd : x.dir
          · simp only [Bool.false_eq_true, if_false, false_implies, true_and, true_implies]
            unfold segC
            rw [← hr]
            by_cases h5 : eqs x.path slashS = true
            · rw [if_pos h5]
              exact ⟨fun h => (by cases h), fun h => absurd (eqs_iff.1 h5) h.1⟩
            · rw [if_neg h5]
              have h5' : x.path ≠ slashS := fun e => h5 (eqs_iff.2 e)
              by_cases h6 : chkR x.rg = 0
              · rw [if_neg (by simp [h6])]
                by_cases h7 : 16 < x.words.length
                · rw [if_pos h7]
                  exact ⟨fun h => (by cases h), fun h => by omega⟩
                · rw [if_neg h7]
                  exact ⟨fun _ => ⟨h5', h6, by omega⟩, fun _ => rfl⟩
              · rw [if_pos h6]
                exact ⟨fun h => absurd h h6, fun h => h.2.1⟩
          · simp only [if_true, true_implies, Bool.true_eq_false, false_implies, and_true]
            unfold dirC
            by_cases h5 : rz x = true ∧ x.words.length = 0
            · rw [if_pos h5]
              exact ⟨fun _ => h5, fun _ => rfl⟩
            · rw [if_neg h5]
              exact ⟨fun h => (by cases h), fun h => absurd h h5⟩
        · rw [if_neg (by simp [h1]), if_neg (by simp [h2]), if_neg (by simp [h3]), if_pos h4]
          exact ⟨fun h => absurd h h4, fun h => h.2.2.2.1⟩
      · rw [if_neg (by simp [h1]), if_neg (by simp [h2]), if_pos h3]
        exact ⟨fun h => absurd h h3, fun h => h.2.2.1⟩
    · rw [if_neg (by simp [h1]), if_pos h2]
      exact ⟨fun h => absurd h h2, fun h => h.2.1⟩
  · rw [if_pos h1]
    exact ⟨fun h => absurd h h1, fun h => h.1⟩

/-! The first nodes. -/
def starS : ByteArray := ⟨#[42]⟩
def allG : List Gr := [⟨starS, 7⟩]
def nmK (k : Nat) : ByteArray := ⟨#[108, UInt8.ofNat (48 + k)]⟩
def rootN : Nod := ⟨slashS, true, bottomL, allG, 0, 0, 0, 0, [], bottomL⟩
def dirN (k : Nat) (t : Lab) : Nod := ⟨⟨#[47, 108, UInt8.ofNat (48 + k)]⟩, true, t, allG, 0, 0, 0, 0, [], bottomL⟩
def distTo (ts : List Lab) : Nat → List Lab
  | 0 => []
  | i + 1 => if (ts.take i).any (fun t => labEq t (ts.getD i bottomL)) = true then distTo ts i else distTo ts i ++ [ts.getD i bottomL]
def firstTo (ts : List Lab) (i : Nat) : List Nod := rootN :: (distTo ts i).mapIdx dirN
def firstN (ts : List Lab) : List Nod := firstTo ts ts.length
theorem dist_len (ts : List Lab) : ∀ i, (distTo ts i).length ≤ i
  | 0 => Nat.le_refl _
  | i + 1 => by
    have := dist_len ts i
    rw [distTo]
    split
    · omega
    · simp; omega
theorem first_succ (ts : List Lab) (i : Nat) : firstTo ts (i + 1) = if (ts.take i).any (fun t => labEq t (ts.getD i bottomL)) = true then firstTo ts i else firstTo ts i ++ [dirN (distTo ts i).length (ts.getD i bottomL)] := by
  unfold firstTo
  rw [distTo]
  split
  · rfl
  · rw [List.mapIdx_concat]
    rfl
theorem dist_mem (ts : List Lab) : ∀ i, i ≤ ts.length → ∀ t, t ∈ distTo ts i ↔ t ∈ ts.take i
  | 0, _, t => by simp [distTo]
  | i + 1, hi, t => by
    have ih := dist_mem ts i (by omega) t
    have hg : ts.getD i bottomL = ts[i] := by rw [List.getD_eq_getElem?_getD, List.getElem?_eq_getElem (by omega)]; rfl
    rw [distTo, hg, List.take_add_one, List.getElem?_eq_getElem (by omega)]
    simp only [Option.toList, List.mem_append, List.mem_singleton]
    split
    · rename_i h
      rw [ih]
      constructor
      · exact fun q => .inl q
      · rintro (q | rfl)
        · exact q
        · obtain ⟨u, hu, he⟩ := List.any_eq_true.1 h
          rw [← (labEq_iff _ _).1 he]
          exact hu
    · rw [List.mem_append, ih, List.mem_singleton]
theorem dist_nodup (ts : List Lab) : ∀ i, i ≤ ts.length → (distTo ts i).Nodup
  | 0, _ => List.nodup_nil
  | i + 1, hi => by
    have ih := dist_nodup ts i (by omega)
    rw [distTo]
    split
    · exact ih
    · rename_i h
      refine List.nodup_append.2 ⟨ih, by simp, fun a ha b hb => ?_⟩
      rw [List.mem_singleton] at hb
      subst hb
      rintro rfl
      apply h
      rw [dist_mem ts i (by omega)] at ha
      exact List.any_eq_true.2 ⟨_, ha, (labEq_iff _ _).2 rfl⟩
theorem dir_path (k : Nat) (t : Lab) : (dirN k t).path = pathB [nmK k] := by
  apply bytes_inj
  rw [pathB_bytes (by simp), body_one]
  rfl
theorem nmK_name {k : Nat} (h : k < 10) : name (nmK k) = true := by
  have : ∀ k : Fin 10, name (nmK k) = true := by decide +kernel
  exact this ⟨k, h⟩
theorem nmK_names {k : Nat} (h : k < 10) : Names [nmK k] := ⟨by simp, fun n hn => by rw [List.mem_singleton] at hn; subst hn; exact nmK_name h⟩
theorem dir_lt {j k : Nat} (h : j < k) (hk : k < 10) (t u : Lab) : lt (dirN j t).path (dirN k u).path = true := by
  have : ∀ k : Fin 10, ∀ j : Fin 10, j.val < k.val → lt ⟨#[47, 108, UInt8.ofNat (48 + j.val)]⟩ ⟨#[47, 108, UInt8.ofNat (48 + k.val)]⟩ = true := by decide +kernel
  exact this ⟨k, hk⟩ ⟨j, by omega⟩ h
theorem root_lt {k : Nat} (hk : k < 10) (t : Lab) : lt rootN.path (dirN k t).path = true := by
  have : ∀ k : Fin 10, lt slashS ⟨#[47, 108, UInt8.ofNat (48 + k.val)]⟩ = true := by decide +kernel
  exact this ⟨k, hk⟩
theorem all_ok : chkA allG = 0 := by decide +kernel
theorem rov_bot {l : Lab} (h : GL l) : rov l bottomL = true := by
  obtain ⟨n, rfl, hn⟩ := h.nl
  rw [← bot_lab, rov_ov hn bot_ok, ov_iff hn bot_ok]
  exact over_bot hn
theorem slash_chk : checkOf slashS = 0 := by rw [← pathB_nil]; exact check_names ⟨by simp, fun n hn => by cases hn⟩
theorem root_ok : nodC rootN = 0 := nodC_zero.2 ⟨slash_chk, bottom_GL, bottom_GL, all_ok, fun _ => ⟨by decide, rfl⟩, fun h => by cases h⟩
theorem dir_ok {k : Nat} (hk : k < 10) {t : Lab} (ht : GL t) : nodC (dirN k t) = 0 := nodC_zero.2 ⟨by rw [dir_path]; exact check_names (nmK_names hk), ht, bottom_GL, all_ok, fun _ => ⟨rfl, rfl⟩, fun h => by cases h⟩
theorem first_mem {ts : List Lab} {i : Nat} {x : Nod} (h : x ∈ firstTo ts i) : x = rootN ∨ ∃ k t, k < (distTo ts i).length ∧ (distTo ts i)[k]? = some t ∧ x = dirN k t := by
  unfold firstTo at h
  rcases List.mem_cons.1 h with h | h
  · exact .inl h
  · obtain ⟨k, hk⟩ := List.mem_iff_getElem?.1 h
    rw [List.getElem?_mapIdx] at hk
    cases hd : (distTo ts i)[k]? with
    | none => rw [hd] at hk; cases hk
    | some t =>
      rw [hd] at hk
      exact .inr ⟨k, t, (List.getElem?_eq_some_iff.1 hd).1, hd, (Option.some.inj hk).symm⟩
theorem first_tree {ts : List Lab} (hg : ∀ t ∈ ts, GL t) (hn : ts.length < 10) : Tree (firstN ts) := by
  have hl := dist_len ts ts.length
  have hgl : ∀ k t, (distTo ts ts.length)[k]? = some t → GL t := fun k t h => hg t (by
    have := (dist_mem ts ts.length (Nat.le_refl _) t).1 (List.mem_of_getElem? h)
    rwa [List.take_length] at this)
  refine ⟨fun x hx => ?_, ?_, ⟨rootN, List.mem_cons_self, rfl, rfl⟩, fun x hx hs => ?_⟩
  · rcases first_mem hx with rfl | ⟨k, t, hk, ht, rfl⟩
    · exact root_ok
    · exact dir_ok (by omega) (hgl k t ht)
  · refine List.pairwise_cons.2 ⟨fun y hy => ?_, ?_⟩
    · rcases first_mem (ts := ts) (i := ts.length) (List.mem_cons_of_mem _ hy) with rfl | ⟨k, t, hk, ht, rfl⟩
      · exfalso
        obtain ⟨k, hk⟩ := List.mem_iff_getElem?.1 hy
        rw [List.getElem?_mapIdx] at hk
        cases hd : (distTo ts ts.length)[k]? with
        | none => rw [hd] at hk; cases hk
        | some t =>
          rw [hd] at hk
          have he := Option.some.inj hk
          have h2 := root_lt (k := k) (by have := (List.getElem?_eq_some_iff.1 hd).1; omega) t
          rw [he, lt_irrefl] at h2
          cases h2
      · exact root_lt (by omega) t
    · rw [List.pairwise_iff_getElem]
      intro i j hi hj hij
      rw [List.length_mapIdx] at hi hj
      rw [List.getElem_mapIdx, List.getElem_mapIdx]
      exact dir_lt hij (by omega) _ _
  · rcases first_mem hx with rfl | ⟨k, t, hk, ht, rfl⟩
    · exact absurd rfl hs
    · refine ⟨rootN, List.mem_cons_self, ?_, rfl, rov_bot (hgl k t ht), fun h => by cases h⟩
      have := nmK_names (k := k) (by omega)
      rw [dir_path, show [nmK k] = [] ++ [nmK k] from rfl, parent_path (this.flat _ List.mem_cons_self).1 (this.flat _ List.mem_cons_self).2, pathB_nil]
      rfl
end Go.Proofs.Ytajondkpdgiolaa
