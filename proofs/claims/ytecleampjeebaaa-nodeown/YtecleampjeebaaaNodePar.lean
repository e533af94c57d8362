/-
  NODES, READ, in plain words: what is written is read again; what can be read is written as it stood; what is cut off is told to be.
-/
import Derived.Test.YtecleampjeebaaaNodeBack
namespace Go.Proofs.Ytecleampjeebaaa
open Go.RowKit
set_option linter.unusedSimpArgs false
set_option linter.unusedVariables false

def dirR (l : List UInt8) (r : Rd) : Rd := if (u8R l r).err = 0 ∧ 1 < u8V l r then ⟨(u8R l r).p, 11⟩ else u8R l r
def grT (l : List UInt8) (r : Rd) : Nat → List Gr × Rd
  | 0 => ([], r)
  | k + 1 => if (grT l r k).2.err = 0 then ((grT l r k).1 ++ [⟨textV l (grT l r k).2, ((u8V l (textR l (grT l r k).2) : Nat) : Int)⟩], u8R l (textR l (grT l r k).2)) else grT l r k
def wdT (l : List UInt8) (r : Rd) : Nat → List Int × Rd
  | 0 => ([], r)
  | k + 1 => if (wdT l r k).2.err = 0 then ((wdT l r k).1 ++ [numV l (wdT l r k).2], numR8 l (wdT l r k).2) else wdT l r k
def nodR0 (l : List UInt8) : Rd := ⟨0, 0⟩
def nodR1 (l : List UInt8) : Rd := textR l (nodR0 l)
def nodR2 (l : List UInt8) : Rd := dirR l (nodR1 l)
def nodR3 (l : List UInt8) : Rd := labR l (nodR2 l)
def nodR4 (l : List UInt8) : Rd := labR l (nodR3 l)
def nodR5 (l : List UInt8) : Rd := u8R l (nodR4 l)
def nodGs (l : List UInt8) : List Gr × Rd := grT l (nodR5 l) (u8V l (nodR4 l))
def nodR6 (l : List UInt8) : Rd := (nodGs l).2
def nodR7 (l : List UInt8) : Rd := u8R l (nodR6 l)
def nodR8 (l : List UInt8) : Rd := u8R l (nodR7 l)
def nodR9 (l : List UInt8) : Rd := u8R l (nodR8 l)
def nodR10 (l : List UInt8) : Rd := u8R l (nodR9 l)
def nodR11 (l : List UInt8) : Rd := u8R l (nodR10 l)
def nodWs (l : List UInt8) : List Int × Rd := wdT l (nodR11 l) (u8V l (nodR10 l))
def nodR12 (l : List UInt8) : Rd := (nodWs l).2
def nodV (l : List UInt8) : Nod := ⟨textV l (nodR0 l), u8V l (nodR1 l) == 1, labV l (nodR2 l), (nodGs l).1, (u8V l (nodR6 l) : Nat), (u8V l (nodR7 l) : Nat), (u8V l (nodR8 l) : Nat), (u8V l (nodR9 l) : Nat), (nodWs l).1, labV l (nodR3 l)⟩
def nodZ : Nod := ⟨⟨#[]⟩, false, ⟨0, 0, 0, 0⟩, [], 0, 0, 0, 0, [], ⟨0, 0, 0, 0⟩⟩
def nodE (l : List UInt8) : Int := endV l (nodR12 l)
def nodP (l : List UInt8) : Nod := if nodE l = 0 then nodV l else nodZ

/-! What is wrong stays. -/
theorem u8R_bad {l : List UInt8} {r : Rd} (h : r.err ≠ 0) : u8R l r = r := if_neg h
theorem textR_bad {l : List UInt8} {r : Rd} (h : r.err ≠ 0) : textR l r = r := by
  unfold textR
  rw [u8R_bad h, if_neg h]
theorem dirR_bad {l : List UInt8} {r : Rd} (h : r.err ≠ 0) : dirR l r = r := by
  unfold dirR
  rw [u8R_bad h, if_neg (fun k => h k.1)]
theorem labR_bad {l : List UInt8} {r : Rd} (h : r.err ≠ 0) : labR l r = r := by
  unfold labR
  rw [u8R_bad h, u8R_bad h, u8R_bad h, u8R_bad h]
theorem numR_bad {l : List UInt8} {r : Rd} (h : r.err ≠ 0) (k : Nat) : numR l r k = r := by
  induction k with
  | zero => rfl
  | succ k ih => rw [numR, ih, u8R_bad h]
theorem grT_bad {l : List UInt8} {r : Rd} (h : r.err ≠ 0) (k : Nat) : grT l r k = ([], r) := by
  induction k with
  | zero => rfl
  | succ k ih => rw [grT, ih, if_neg h]
theorem wdT_bad {l : List UInt8} {r : Rd} (h : r.err ≠ 0) (k : Nat) : wdT l r k = ([], r) := by
  induction k with
  | zero => rfl
  | succ k ih => rw [wdT, ih, if_neg h]
theorem grT_stop {l : List UInt8} {r : Rd} {i : Nat} (h : (grT l r i).2.err ≠ 0) (k : Nat) : grT l r (i + k) = grT l r i := by
  induction k with
  | zero => rfl
  | succ k ih => rw [← Nat.add_assoc, grT, ih, if_neg h]
theorem wdT_stop {l : List UInt8} {r : Rd} {i : Nat} (h : (wdT l r i).2.err ≠ 0) (k : Nat) : wdT l r (i + k) = wdT l r i := by
  induction k with
  | zero => rfl
  | succ k ih => rw [← Nat.add_assoc, wdT, ih, if_neg h]
theorem grT_good {l : List UInt8} {r : Rd} {k : Nat} (h : (grT l r k).2.err = 0) {i : Nat} (hi : i ≤ k) : (grT l r i).2.err = 0 := by
  by_cases h0 : (grT l r i).2.err = 0
  · exact h0
  · have := grT_stop h0 (k - i)
    rw [show i + (k - i) = k by omega] at this
    rw [← this]
    exact h
theorem wdT_good {l : List UInt8} {r : Rd} {k : Nat} (h : (wdT l r k).2.err = 0) {i : Nat} (hi : i ≤ k) : (wdT l r i).2.err = 0 := by
  by_cases h0 : (wdT l r i).2.err = 0
  · exact h0
  · have := wdT_stop h0 (k - i)
    rw [show i + (k - i) = k by omega] at this
    rw [← this]
    exact h
theorem err_of_bad {f : Rd → Rd} {r : Rd} (hf : r.err ≠ 0 → f r = r) (h : (f r).err = 0) : r.err = 0 := by
  by_cases h0 : r.err = 0
  · exact h0
  · rw [hf h0] at h
    exact h

/-! What was read stood there. -/
structure Ate (l : List UInt8) (r r' : Rd) (bs : List UInt8) : Prop where
  e : r.err = 0
  e' : r'.err = 0
  d : l.drop r.p = bs ++ l.drop r'.p
  p : r'.p = r.p + bs.length
theorem Ate.trans {l : List UInt8} {r r1 r2 : Rd} {a b : List UInt8} (h : Ate l r r1 a) (k : Ate l r1 r2 b) : Ate l r r2 (a ++ b) :=
  ⟨h.e, k.e', by rw [h.d, k.d, List.append_assoc], by rw [k.p, h.p, List.length_append]; omega⟩
theorem ate_u8 {l : List UInt8} {r : Rd} (h : (u8R l r).err = 0) : Ate l r (u8R l r) [lowB (u8V l r : Nat)] := by
  have h0 := err_of_bad (f := u8R l) u8R_bad h
  unfold u8R at h
  rw [if_pos h0] at h
  split at h
  · rename_i hp
    have e1 : u8R l r = ⟨r.p + 1, 0⟩ := by unfold u8R; rw [if_pos h0, if_pos hp]
    have e2 : u8V l r = (l.getD r.p 0).toNat := if_pos ⟨h0, hp⟩
    rw [e1, e2]
    refine ⟨h0, rfl, ?_, rfl⟩
    rw [List.drop_eq_getElem_cons hp]
    have hb : lowB ((l.getD r.p 0).toNat : Int) = l[r.p] := by
      rw [List.getD_eq_getElem?_getD, List.getElem?_eq_getElem hp]
      unfold lowB
      have := (l[r.p]).toNat_lt
      rw [show (((some l[r.p]).getD 0).toNat : Int) % 256 = ((l[r.p]).toNat : Int) by simp only [Option.getD_some]; omega]
      simp
    rw [hb]
    rfl
  · cases h
theorem ate_text {l : List UInt8} {r : Rd} (h : (textR l r).err = 0) : Ate l r (textR l r) (encT (textV l r)) ∧ (textV l r).size < 256 := by
  have h0 : (u8R l r).err = 0 := by
    by_cases h1 : (u8R l r).err = 0
    · exact h1
    · unfold textR at h; rw [if_neg h1] at h; exact h
  have hu := ate_u8 h0
  have hv := u8V_lt l r
  unfold textR at h
  rw [if_pos h0] at h
  split at h
  · rename_i hp
    have e1 : textR l r = ⟨(u8R l r).p + u8V l r, 0⟩ := by unfold textR; rw [if_pos h0, if_pos hp]
    have e2 : textV l r = ⟨((l.drop (u8R l r).p).take (u8V l r)).toArray⟩ := by unfold textV; rw [if_pos ⟨h0, hp⟩]
    have hs : (textV l r).size = u8V l r := by
      rw [e2]
      show ((l.drop (u8R l r).p).take (u8V l r)).toArray.size = _
      simp
      omega
    refine ⟨?_, by rw [hs]; exact hv⟩
    have hd : (textV l r).data.toList = (l.drop (u8R l r).p).take (u8V l r) := by rw [e2]
    unfold encT
    rw [hs, hd, e1]
    refine ⟨hu.e, rfl, ?_, ?_⟩
    · rw [hu.d]
      simp only [List.cons_append, List.nil_append]
      rw [← List.drop_drop, List.take_append_drop]
    · have := hu.p
      simp at this ⊢
      omega
  · cases h
theorem u8_byte (l : List UInt8) (r : Rd) : (0 : Int) ≤ (u8V l r : Nat) ∧ ((u8V l r : Nat) : Int) < 256 := by
  have := u8V_lt l r
  omega
theorem ate_lab {l : List UInt8} {r : Rd} (h : (labR l r).err = 0) : Ate l r (labR l r) (encL (labV l r)) ∧ (labV l r).Byte := by
  refine ⟨?_, ⟨u8_byte _ _, u8_byte _ _, u8_byte _ _, u8_byte _ _⟩⟩
  unfold labR at h ⊢
  have h3 := err_of_bad (f := u8R l) u8R_bad h
  have h2 := err_of_bad (f := u8R l) u8R_bad h3
  have h1 := err_of_bad (f := u8R l) u8R_bad h2
  exact (((ate_u8 h1).trans (ate_u8 h2)).trans (ate_u8 h3)).trans (ate_u8 h)
theorem numR_good {l : List UInt8} {r : Rd} {k : Nat} (h : (numR l r k).err = 0) {i : Nat} (hi : i ≤ k) : (numR l r i).err = 0 := by
  obtain ⟨d, rfl⟩ : ∃ d, k = i + d := ⟨k - i, by omega⟩
  clear hi
  induction d with
  | zero => exact h
  | succ d ih => exact ih (err_of_bad (f := u8R l) u8R_bad h)
theorem num_front {l : List UInt8} {r : Rd} (s : Nat) (hs : s = numTo l r 8) : ∀ d, d ≤ 8 → s / 256 ^ d = numTo l r (8 - d) := fun d => by
  induction d with
  | zero => intro _; simp [hs]
  | succ d ih =>
    intro hd
    have := ih (by omega)
    rw [Nat.pow_succ, ← Nat.div_div_eq_div_mul, this, show 8 - d = (8 - (d + 1)) + 1 by omega, numTo]
    have := u8V_lt l (numR l r (8 - (d + 1)))
    omega
theorem ate_num {l : List UInt8} {r : Rd} (h : (numR8 l r).err = 0) : Ate l r (numR8 l r) (encW (numV l r)) := by
  have hlt := numTo_lt l r 8
  have hsalt : saltN (numV l r) = numTo l r 8 := by
    unfold numV wordV saltN
    split <;> omega
  unfold encW
  rw [hsalt]
  unfold numR8 at h ⊢
  have key : ∀ k, k ≤ 8 → 1 ≤ k → Ate l r (numR l r k) (saltTo (numTo l r 8) k) := fun k => by
    induction k with
    | zero => intro _ h1; omega
    | succ k ih =>
      intro hk _
      have hg : (u8R l (numR l r k)).err = 0 := numR_good (k := 8) h (i := k + 1) hk
      have hu := ate_u8 hg
      rw [saltTo_succ]
      have hb : UInt8.ofNat (numTo l r 8 / 2 ^ (8 * (7 - k))) = lowB (u8V l (numR l r k) : Nat) := by
        have hf := num_front (l := l) (r := r) _ rfl (7 - k) (by omega)
        rw [show 2 ^ (8 * (7 - k)) = 256 ^ (7 - k) by rw [Nat.pow_mul], hf, show 8 - (7 - k) = k + 1 by omega, numTo]
        have hv := u8V_lt l (numR l r k)
        unfold lowB
        rw [show (((u8V l (numR l r k) : Nat) : Int) % 256).toNat = u8V l (numR l r k) by omega]
        apply UInt8.toNat_inj.1
        simp [UInt8.toNat_ofNat']
      rw [hb]
      by_cases h0 : k = 0
      · subst h0
        exact hu
      · exact (ih (by omega) (by omega)).trans hu
  exact key 8 (Nat.le_refl _) (by omega)
theorem num_fits (l : List UInt8) (r : Rd) : -9223372036854775808 ≤ numV l r ∧ numV l r ≤ 9223372036854775807 := by
  have hlt := numTo_lt l r 8
  unfold numV wordV
  split <;> omega
def Gr.Plain (g : Gr) : Prop := g.u.size < 256 ∧ 0 ≤ g.m ∧ g.m < 256
theorem ate_grs {l : List UInt8} {r : Rd} (hr : r.err = 0) (k : Nat) (h : (grT l r k).2.err = 0) : Ate l r (grT l r k).2 ((grT l r k).1.flatMap encG) ∧ (grT l r k).1.length = k ∧ ∀ g ∈ (grT l r k).1, g.Plain := by
  induction k with
  | zero => exact ⟨⟨hr, hr, rfl, rfl⟩, rfl, fun g hg => by simp [grT] at hg⟩
  | succ k ih =>
    have hk := grT_good h (i := k) (by omega)
    obtain ⟨i1, i2, i3⟩ := ih hk
    have e : grT l r (k + 1) = ((grT l r k).1 ++ [⟨textV l (grT l r k).2, ((u8V l (textR l (grT l r k).2) : Nat) : Int)⟩], u8R l (textR l (grT l r k).2)) := by rw [grT, if_pos hk]
    rw [e] at h ⊢
    have ht := err_of_bad (f := u8R l) u8R_bad h
    obtain ⟨t1, t2⟩ := ate_text ht
    refine ⟨?_, by simp [i2], fun g hg => ?_⟩
    · have := i1.trans (t1.trans (ate_u8 h))
      simpa [encG] using this
    · rcases List.mem_append.1 hg with hg | hg
      · exact i3 g hg
      · simp at hg
        subst hg
        exact ⟨t2, u8_byte _ _⟩
theorem ate_wds {l : List UInt8} {r : Rd} (hr : r.err = 0) (k : Nat) (h : (wdT l r k).2.err = 0) : Ate l r (wdT l r k).2 ((wdT l r k).1.flatMap encW) ∧ (wdT l r k).1.length = k ∧ ∀ x ∈ (wdT l r k).1, -9223372036854775808 ≤ x ∧ x ≤ 9223372036854775807 := by
  induction k with
  | zero => exact ⟨⟨hr, hr, rfl, rfl⟩, rfl, fun g hg => by simp [wdT] at hg⟩
  | succ k ih =>
    have hk := wdT_good h (i := k) (by omega)
    obtain ⟨i1, i2, i3⟩ := ih hk
    have e : wdT l r (k + 1) = ((wdT l r k).1 ++ [numV l (wdT l r k).2], numR8 l (wdT l r k).2) := by rw [wdT, if_pos hk]
    rw [e] at h ⊢
    refine ⟨?_, by simp [i2], fun g hg => ?_⟩
    · have := i1.trans (ate_num h)
      simpa using this
    · rcases List.mem_append.1 hg with hg | hg
      · exact i3 g hg
      · simp at hg
        subst hg
        exact num_fits _ _
theorem end_zero {l : List UInt8} {r : Rd} (h : endV l r = 0) : r.err = 0 ∧ l.length ≤ r.p := by
  unfold endV at h
  split at h
  · cases h
  · rename_i hn
    refine ⟨h, ?_⟩
    by_cases hp : r.p < l.length
    · exact absurd ⟨h, hp⟩ hn
    · omega
theorem ate_all {l bs : List UInt8} {r : Rd} (h : Ate l ⟨0, 0⟩ r bs) (he : l.length ≤ r.p) : l = bs := by
  have := h.d
  rw [List.drop_eq_nil_of_le he] at this
  simpa using this
/-- A node that its bytes can say. -/
structure Nod.Plain (n : Nod) : Prop where
  p : n.path.size < 256
  l : n.label.Byte
  b : n.by_.Byte
  a : n.acl.length < 256
  g : ∀ g ∈ n.acl, g.Plain
  r1 : 0 ≤ n.r1 ∧ n.r1 < 256
  r2 : 0 ≤ n.r2 ∧ n.r2 < 256
  r3 : 0 ≤ n.r3 ∧ n.r3 < 256
  gt : 0 ≤ n.gates ∧ n.gates < 256
  w : n.words.length < 256
  x : ∀ x ∈ n.words, -9223372036854775808 ≤ x ∧ x ≤ 9223372036854775807
theorem dir_good {l : List UInt8} {r : Rd} (h : (dirR l r).err = 0) : (u8R l r).err = 0 ∧ u8V l r ≤ 1 ∧ dirR l r = u8R l r := by
  unfold dirR at h ⊢
  split at h
  · cases h
  · rename_i hn
    rw [if_neg hn]
    exact ⟨h, by by_cases h1 : 1 < u8V l r; exact absurd ⟨h, h1⟩ hn; omega, rfl⟩
theorem ate_dir {l : List UInt8} {r : Rd} (h : (dirR l r).err = 0) : Ate l r (dirR l r) [dirB (u8V l r == 1)] := by
  obtain ⟨h1, h2, h3⟩ := dir_good h
  rw [h3]
  have hu := ate_u8 h1
  rcases Nat.le_one_iff_eq_zero_or_eq_one.1 h2 with e | e <;> rw [e] at hu ⊢ <;> exact hu
/-- What can be read is written as it stood. -/
theorem nod_written {l : List UInt8} (h : nodE l = 0) : encN (nodP l) = l ∧ (nodP l).Plain := by
  obtain ⟨h12, hlen⟩ := end_zero h
  have h11 : (nodR11 l).err = 0 := wdT_good (i := 0) h12 (Nat.zero_le _)
  have h10 : (nodR10 l).err = 0 := err_of_bad (f := u8R l) u8R_bad h11
  have h9 : (nodR9 l).err = 0 := err_of_bad (f := u8R l) u8R_bad h10
  have h8 : (nodR8 l).err = 0 := err_of_bad (f := u8R l) u8R_bad h9
  have h7 : (nodR7 l).err = 0 := err_of_bad (f := u8R l) u8R_bad h8
  have h6 : (nodR6 l).err = 0 := err_of_bad (f := u8R l) u8R_bad h7
  have h5 : (nodR5 l).err = 0 := grT_good (i := 0) h6 (Nat.zero_le _)
  have h4 : (nodR4 l).err = 0 := err_of_bad (f := u8R l) u8R_bad h5
  have h3 : (nodR3 l).err = 0 := err_of_bad (f := labR l) labR_bad h4
  have h2 : (nodR2 l).err = 0 := err_of_bad (f := labR l) labR_bad h3
  have h1 : (nodR1 l).err = 0 := err_of_bad (f := dirR l) dirR_bad h2
  obtain ⟨a1, p1⟩ := ate_text (r := nodR0 l) h1
  have a2 := ate_dir (r := nodR1 l) h2
  obtain ⟨a3, p3⟩ := ate_lab (r := nodR2 l) h3
  obtain ⟨a4, p4⟩ := ate_lab (r := nodR3 l) h4
  have a5 := ate_u8 (r := nodR4 l) h5
  obtain ⟨a6, n6, p6⟩ := ate_grs (r := nodR5 l) h5 _ h6
  have a7 := ate_u8 (r := nodR6 l) h7
  have a8 := ate_u8 (r := nodR7 l) h8
  have a9 := ate_u8 (r := nodR8 l) h9
  have a10 := ate_u8 (r := nodR9 l) h10
  have a11 := ate_u8 (r := nodR10 l) h11
  obtain ⟨a12, n12, p12⟩ := ate_wds (r := nodR11 l) h11 _ h12
  have hP : nodP l = nodV l := if_pos h
  rw [hP]
  have hall := ate_all ((((((((((((a1.trans a2).trans a3).trans a4).trans a5).trans a6).trans a7).trans a8).trans a9).trans a10).trans a11).trans a12)) hlen
  refine ⟨?_, ⟨p1, p3, p4, ?_, p6, u8_byte _ _, u8_byte _ _, u8_byte _ _, u8_byte _ _, ?_, p12⟩⟩
  · refine Eq.trans ?_ hall.symm
    unfold encN nodV
    dsimp only
    rw [show (nodGs l).1.length = u8V l (nodR4 l) from n6, show (nodWs l).1.length = u8V l (nodR10 l) from n12]
    simp [nodGs, nodWs]
  · show (nodGs l).1.length < 256
    rw [show (nodGs l).1.length = u8V l (nodR4 l) from n6]
    exact u8V_lt _ _
  · show (nodWs l).1.length < 256
    rw [show (nodWs l).1.length = u8V l (nodR10 l) from n12]
    exact u8V_lt _ _
theorem msg_written {l : List UInt8} (h : msgE l = 0) : encM (msgP l) = l ∧ (msgP l).Plain := by
  obtain ⟨h5, hlen⟩ := end_zero h
  have h4 : (msgR4 l).err = 0 := err_of_bad (f := textR l) textR_bad h5
  have h3 : (msgR3 l).err = 0 := err_of_bad (f := labR l) labR_bad h4
  have h2 : (msgR2 l).err = 0 := err_of_bad (f := textR l) textR_bad h3
  have h1 : (msgR1 l).err = 0 := err_of_bad (f := labR l) labR_bad h2
  obtain ⟨a1, p1⟩ := ate_text (r := msgR0 l) h1
  obtain ⟨a2, p2⟩ := ate_lab (r := msgR1 l) h2
  obtain ⟨a3, p3⟩ := ate_text (r := msgR2 l) h3
  obtain ⟨a4, p4⟩ := ate_lab (r := msgR3 l) h4
  obtain ⟨a5, p5⟩ := ate_text (r := msgR4 l) h5
  have hP : msgP l = msgV l := if_pos h
  rw [hP]
  exact ⟨(ate_all ((((a1.trans a2).trans a3).trans a4).trans a5) hlen).symm, ⟨p1, p2, p3, p4, p5⟩⟩
theorem ent_written {l : List UInt8} (h : entE l = 0) : encE (entP l) = l ∧ (entP l).Plain := by
  obtain ⟨h6, hlen⟩ := end_zero h
  have h5 : (entR5 l).err = 0 := err_of_bad (f := u8R l) u8R_bad h6
  have h4 : (entR4 l).err = 0 := err_of_bad (f := textR l) textR_bad h5
  have h3 : (entR3 l).err = 0 := err_of_bad (f := u8R l) u8R_bad h4
  have h2 : (entR2 l).err = 0 := err_of_bad (f := textR l) textR_bad h3
  have h1 : (entR1 l).err = 0 := err_of_bad (f := labR l) labR_bad h2
  have a1 := ate_num (r := entR0 l) h1
  obtain ⟨a2, p2⟩ := ate_lab (r := entR1 l) h2
  obtain ⟨a3, p3⟩ := ate_text (r := entR2 l) h3
  have a4 := ate_u8 (r := entR3 l) h4
  obtain ⟨a5, p5⟩ := ate_text (r := entR4 l) h5
  have a6 := ate_u8 (r := entR5 l) h6
  have hP : entP l = entV l := if_pos h
  rw [hP]
  exact ⟨(ate_all (((((a1.trans a2).trans a3).trans a4).trans a5).trans a6) hlen).symm, ⟨num_fits _ _, p2, p3, u8_byte _ _, p5, u8_byte _ _⟩⟩
end Go.Proofs.Ytecleampjeebaaa
