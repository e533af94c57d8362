/-
  NODES, WRITTEN AND READ AGAIN, with whatever behind; cut off anywhere they are told to be.
-/
import Derived.Test.YtecleampjeebaaaNodePar
namespace Go.Proofs.Ytecleampjeebaaa
open Go.RowKit
set_option linter.unusedSimpArgs false
set_option linter.unusedVariables false

/-- Where a reading stands: what is ahead of it. -/
structure Sta (l : List UInt8) (r : Rd) (t : List UInt8) : Prop where
  e : r.err = 0
  p : r.p ≤ l.length
  d : l.drop r.p = t
theorem Sta.split {l : List UInt8} {r : Rd} {a t : List UInt8} (h : Sta l r (a ++ t)) : l = l.take r.p ++ a ++ t ∧ (l.take r.p).length = r.p ∧ r = ⟨(l.take r.p).length, 0⟩ := by
  have h1 : (l.take r.p).length = r.p := by rw [List.length_take]; have := h.p; omega
  refine ⟨?_, h1, ?_⟩
  · rw [List.append_assoc, ← h.d, List.take_append_drop]
  · rw [h1, ← h.e]
theorem Sta.next {pre a t : List UInt8} : Sta (pre ++ a ++ t) ⟨(pre ++ a).length, 0⟩ t :=
  ⟨rfl, by simp, by simp⟩
theorem sta_text {l : List UInt8} {r : Rd} {s : ByteArray} {t : List UInt8} (h : Sta l r (encT s ++ t)) (hs : s.size < 256) : textV l r = s ∧ Sta l (textR l r) t := by
  obtain ⟨h1, h2, h3⟩ := h.split
  generalize l.take r.p = pre at *
  have := text_back pre t s hs
  rw [h3, h1, this.1, this.2]
  exact ⟨rfl, Sta.next⟩
theorem sta_lab {l : List UInt8} {r : Rd} {x : Lab} {t : List UInt8} (h : Sta l r (encL x ++ t)) (hs : x.Byte) : labV l r = x ∧ Sta l (labR l r) t := by
  obtain ⟨h1, h2, h3⟩ := h.split
  generalize l.take r.p = pre at *
  have := lab_back pre t x hs
  rw [h3, h1, this.1, this.2]
  exact ⟨rfl, Sta.next⟩
theorem sta_num {l : List UInt8} {r : Rd} {x : Int} {t : List UInt8} (h : Sta l r (encW x ++ t)) (hs : -9223372036854775808 ≤ x ∧ x ≤ 9223372036854775807) : numV l r = x ∧ Sta l (numR8 l r) t := by
  obtain ⟨h1, h2, h3⟩ := h.split
  generalize l.take r.p = pre at *
  have := num_back pre t x hs
  rw [h3, h1, this.1, this.2]
  exact ⟨rfl, Sta.next⟩
theorem sta_u8 {l : List UInt8} {r : Rd} {x : Int} {t : List UInt8} (h : Sta l r ([lowB x] ++ t)) (hs : 0 ≤ x ∧ x < 256) : ((u8V l r : Nat) : Int) = x ∧ Sta l (u8R l r) t := by
  obtain ⟨h1, h2, h3⟩ := h.split
  generalize l.take r.p = pre at *
  have := u8_back pre t x hs
  rw [h3, h1, this.1, this.2]
  exact ⟨rfl, Sta.next⟩
theorem sta_dir {l : List UInt8} {r : Rd} {d : Bool} {t : List UInt8} (h : Sta l r ([dirB d] ++ t)) : (u8V l r == 1) = d ∧ Sta l (dirR l r) t := by
  have h' : Sta l r ([lowB (if d then 1 else 0)] ++ t) := by
    cases d <;> exact h
  obtain ⟨k1, k2⟩ := sta_u8 h' (by cases d <;> decide)
  have hv : u8V l r = if d then 1 else 0 := by cases d <;> simp at k1 ⊢ <;> omega
  refine ⟨by rw [hv]; cases d <;> rfl, ?_⟩
  unfold dirR
  rw [if_neg (fun q => by have := q.2; rw [hv] at this; cases d <;> simp at this)]
  exact k2
theorem sta_grs {l : List UInt8} {r : Rd} {gs : List Gr} {t : List UInt8} (h : Sta l r (gs.flatMap encG ++ t)) (hs : ∀ g ∈ gs, g.Plain) : ∀ k, k ≤ gs.length → (grT l r k).1 = gs.take k ∧ Sta l (grT l r k).2 ((gs.drop k).flatMap encG ++ t) := fun k => by
  induction k with
  | zero => intro _; exact ⟨rfl, h⟩
  | succ k ih =>
    intro hk
    obtain ⟨i1, i2⟩ := ih (by omega)
    have hlt : k < gs.length := by omega
    rw [List.drop_eq_getElem_cons hlt, List.flatMap_cons, encG, List.append_assoc, List.append_assoc] at i2
    have hp := hs gs[k] (List.getElem_mem hlt)
    obtain ⟨t1, t2⟩ := sta_text i2 hp.1
    obtain ⟨u1, u2⟩ := sta_u8 t2 hp.2
    rw [grT, if_pos i2.e]
    refine ⟨?_, u2⟩
    dsimp only
    rw [i1, t1, u1, List.take_add_one, List.getElem?_eq_getElem hlt]
    rfl
theorem sta_wds {l : List UInt8} {r : Rd} {ws : List Int} {t : List UInt8} (h : Sta l r (ws.flatMap encW ++ t)) (hs : ∀ x ∈ ws, -9223372036854775808 ≤ x ∧ x ≤ 9223372036854775807) : ∀ k, k ≤ ws.length → (wdT l r k).1 = ws.take k ∧ Sta l (wdT l r k).2 ((ws.drop k).flatMap encW ++ t) := fun k => by
  induction k with
  | zero => intro _; exact ⟨rfl, h⟩
  | succ k ih =>
    intro hk
    obtain ⟨i1, i2⟩ := ih (by omega)
    have hlt : k < ws.length := by omega
    rw [List.drop_eq_getElem_cons hlt, List.flatMap_cons, List.append_assoc] at i2
    have hp := hs ws[k] (List.getElem_mem hlt)
    obtain ⟨t1, t2⟩ := sta_num i2 hp
    rw [wdT, if_pos i2.e]
    refine ⟨?_, t2⟩
    dsimp only
    rw [i1, t1, List.take_add_one, List.getElem?_eq_getElem hlt]
    rfl
/-- A node's bytes, whatever behind, are read as the node. -/
theorem nod_read (n : Nod) (h : n.Plain) (t : List UInt8) : nodV (encN n ++ t) = n ∧ Sta (encN n ++ t) (nodR12 (encN n ++ t)) t := by
  have hl : encN n ++ t = encT n.path ++ ([dirB n.dir] ++ (encL n.label ++ (encL n.by_ ++ ([lowB (n.acl.length : Int)] ++ (n.acl.flatMap encG ++ ([lowB n.r1] ++ ([lowB n.r2] ++ ([lowB n.r3] ++ ([lowB n.gates] ++ ([lowB (n.words.length : Int)] ++ (n.words.flatMap encW ++ t))))))))))) := by
    unfold encN
    simp
  have h0 : Sta (encN n ++ t) (nodR0 (encN n ++ t)) (encN n ++ t) := ⟨rfl, Nat.zero_le _, rfl⟩
  generalize encN n ++ t = l at *
  subst hl
  obtain ⟨v1, s1⟩ := sta_text h0 h.p
  obtain ⟨v2, s2⟩ := sta_dir s1
  obtain ⟨v3, s3⟩ := sta_lab s2 h.l
  obtain ⟨v4, s4⟩ := sta_lab s3 h.b
  obtain ⟨v5, s5⟩ := sta_u8 s4 ⟨by omega, by have := h.a; omega⟩
  obtain ⟨v6, s6⟩ := sta_grs s5 h.g n.acl.length (Nat.le_refl _)
  rw [List.drop_length, List.flatMap_nil, List.nil_append] at s6
  obtain ⟨v7, s7⟩ := sta_u8 s6 h.r1
  obtain ⟨v8, s8⟩ := sta_u8 s7 h.r2
  obtain ⟨v9, s9⟩ := sta_u8 s8 h.r3
  obtain ⟨v10, s10⟩ := sta_u8 s9 h.gt
  obtain ⟨v11, s11⟩ := sta_u8 s10 ⟨by omega, by have := h.w; omega⟩
  obtain ⟨v12, s12⟩ := sta_wds s11 h.x n.words.length (Nat.le_refl _)
  rw [List.drop_length, List.flatMap_nil, List.nil_append] at s12
  rw [List.take_length] at v6 v12
  generalize encT n.path ++ ([dirB n.dir] ++ (encL n.label ++ (encL n.by_ ++ ([lowB (n.acl.length : Int)] ++ (n.acl.flatMap encG ++ ([lowB n.r1] ++ ([lowB n.r2] ++ ([lowB n.r3] ++ ([lowB n.gates] ++ ([lowB (n.words.length : Int)] ++ (n.words.flatMap encW ++ t))))))))))) = l at *
  have e5 : u8V l (nodR4 l) = n.acl.length := Int.ofNat.inj v5
  have e6 : nodR6 l = (grT l (nodR5 l) n.acl.length).2 := by
    show (grT l (nodR5 l) (u8V l (nodR4 l))).2 = _
    rw [e5]
  have e6' : (nodGs l).1 = n.acl := by
    show (grT l (nodR5 l) (u8V l (nodR4 l))).1 = _
    rw [e5]
    exact v6
  have f7 : nodR7 l = u8R l (grT l (nodR5 l) n.acl.length).2 := by unfold nodR7; rw [e6]
  have f8 : nodR8 l = u8R l (u8R l (grT l (nodR5 l) n.acl.length).2) := by unfold nodR8; rw [f7]
  have f9 : nodR9 l = u8R l (u8R l (u8R l (grT l (nodR5 l) n.acl.length).2)) := by unfold nodR9; rw [f8]
  have f10 : nodR10 l = u8R l (u8R l (u8R l (u8R l (grT l (nodR5 l) n.acl.length).2))) := by unfold nodR10; rw [f9]
  have f11 : nodR11 l = u8R l (u8R l (u8R l (u8R l (u8R l (grT l (nodR5 l) n.acl.length).2)))) := by unfold nodR11; rw [f10]
  have e11 : u8V l (nodR10 l) = n.words.length := by rw [f10]; exact Int.ofNat.inj v11
  have e12 : nodWs l = wdT l (u8R l (u8R l (u8R l (u8R l (u8R l (grT l (nodR5 l) n.acl.length).2))))) n.words.length := by
    unfold nodWs
    rw [e11, f11]
  refine ⟨?_, ?_⟩
  · unfold nodV
    rw [e6', e12, show (wdT l (u8R l (u8R l (u8R l (u8R l (u8R l (grT l (nodR5 l) n.acl.length).2))))) n.words.length).1 = n.words from v12, f9, f8, f7, e6]
    rw [show textV l (nodR0 l) = n.path from v1, show (u8V l (nodR1 l) == 1) = n.dir from v2, show labV l (nodR2 l) = n.label from v3, show labV l (nodR3 l) = n.by_ from v4]
    rw [show ((u8V l (grT l (nodR5 l) n.acl.length).2 : Nat) : Int) = n.r1 from v7, show ((u8V l (u8R l (grT l (nodR5 l) n.acl.length).2) : Nat) : Int) = n.r2 from v8, show ((u8V l (u8R l (u8R l (grT l (nodR5 l) n.acl.length).2)) : Nat) : Int) = n.r3 from v9, show ((u8V l (u8R l (u8R l (u8R l (grT l (nodR5 l) n.acl.length).2))) : Nat) : Int) = n.gates from v10]
  · unfold nodR12
    rw [e12]
    exact s12
theorem nod_back (n : Nod) (h : n.Plain) : nodP (encN n) = n ∧ nodE (encN n) = 0 := by
  have := nod_read n h []
  rw [List.append_nil] at this
  obtain ⟨h1, h2⟩ := this
  have hE : nodE (encN n) = 0 := by
    unfold nodE endV
    have hp : (encN n).length ≤ (nodR12 (encN n)).p := by
      have := h2.d
      simpa using this
    rw [if_neg (fun q => by omega)]
    exact h2.e
  refine ⟨?_, hE⟩
  unfold nodP
  rw [if_pos hE]
  exact h1
theorem nod_more (n : Nod) (h : n.Plain) (c : UInt8) : nodE (encN n ++ [c]) = 9 := by
  obtain ⟨h1, h2⟩ := nod_read n h [c]
  unfold nodE endV
  rw [if_pos]
  refine ⟨h2.e, ?_⟩
  have hd := h2.d
  by_cases hp : (nodR12 (encN n ++ [c])).p < (encN n ++ [c]).length
  · exact hp
  · rw [List.drop_eq_nil_of_le (by omega)] at hd
    cases hd
/-! What is cut off. -/
def Cut (l : List UInt8) (k : Nat) (rc r : Rd) : Prop := (rc = r ∧ r.p ≤ k) ∨ rc.err = 8
theorem cut_u8 {l : List UInt8} {k : Nat} (hk : k ≤ l.length) {rc r : Rd} (h : Cut l k rc r) (hg : (u8R l r).err = 0) : Cut l k (u8R (l.take k) rc) (u8R l r) ∧ ((u8R (l.take k) rc).err = 0 → u8V (l.take k) rc = u8V l r) := by
  rcases h with ⟨rfl, hp⟩ | h
  · have h0 := err_of_bad (f := u8R l) u8R_bad hg
    have hlt : rc.p < l.length := by
      by_cases q : rc.p < l.length
      · exact q
      · unfold u8R at hg; rw [if_pos h0, if_neg q] at hg; cases hg
    have e1 : u8R l rc = ⟨rc.p + 1, 0⟩ := by unfold u8R; rw [if_pos h0, if_pos hlt]
    have hl : (l.take k).length = k := by rw [List.length_take]; omega
    by_cases hq : rc.p < k
    · have e2 : u8R (l.take k) rc = ⟨rc.p + 1, 0⟩ := by unfold u8R; rw [if_pos h0, if_pos (by omega)]
      refine ⟨.inl ⟨by rw [e1, e2], by rw [e1]; exact hq⟩, fun _ => ?_⟩
      unfold u8V
      rw [if_pos ⟨h0, by omega⟩, if_pos ⟨h0, hlt⟩, List.getD_eq_getElem?_getD, List.getD_eq_getElem?_getD, List.getElem?_take_of_lt hq]
    · have e2 : u8R (l.take k) rc = ⟨rc.p, 8⟩ := by unfold u8R; rw [if_pos h0, if_neg (by omega)]
      refine ⟨.inr (by rw [e2]), fun q => ?_⟩
      rw [e2] at q
      cases q
  · have hb : rc.err ≠ 0 := by rw [h]; decide
    rw [u8R_bad hb]
    exact ⟨.inr h, fun q => absurd q hb⟩
theorem cut_text {l : List UInt8} {k : Nat} (hk : k ≤ l.length) {rc r : Rd} (h : Cut l k rc r) (hg : (textR l r).err = 0) : Cut l k (textR (l.take k) rc) (textR l r) := by
  have h0 : (u8R l r).err = 0 := by
    by_cases h1 : (u8R l r).err = 0
    · exact h1
    · unfold textR at hg; rw [if_neg h1] at hg; exact hg
  obtain ⟨hc, hv⟩ := cut_u8 hk h h0
  have hp : (u8R l r).p + u8V l r ≤ l.length := by
    by_cases q : (u8R l r).p + u8V l r ≤ l.length
    · exact q
    · unfold textR at hg; rw [if_pos h0, if_neg q] at hg; cases hg
  have hl : (l.take k).length = k := by rw [List.length_take]; omega
  have e1 : textR l r = ⟨(u8R l r).p + u8V l r, 0⟩ := by unfold textR; rw [if_pos h0, if_pos hp]
  rcases hc with ⟨hc1, hc2⟩ | hc
  · have hv' := hv (by rw [hc1]; exact h0)
    by_cases hq : (u8R l r).p + u8V l r ≤ k
    · refine .inl ⟨?_, by rw [e1]; exact hq⟩
      rw [e1]
      unfold textR
      rw [hc1, hv', if_pos h0, if_pos (by omega)]
    · refine .inr ?_
      unfold textR
      rw [hc1, hv', if_pos h0, if_neg (by omega)]
  · refine .inr ?_
    unfold textR
    rw [if_neg (by rw [hc]; decide)]
    exact hc
theorem cut_dir {l : List UInt8} {k : Nat} (hk : k ≤ l.length) {rc r : Rd} (h : Cut l k rc r) (hg : (dirR l r).err = 0) : Cut l k (dirR (l.take k) rc) (dirR l r) := by
  obtain ⟨h1, h2, h3⟩ := dir_good hg
  obtain ⟨hc, hv⟩ := cut_u8 hk h h1
  rw [h3]
  rcases hc with ⟨hc1, hc2⟩ | hc
  · have hv' := hv (by rw [hc1]; exact h1)
    refine .inl ⟨?_, hc2⟩
    unfold dirR
    rw [hc1, hv', if_neg (fun q => by omega)]
  · refine .inr ?_
    unfold dirR
    rw [if_neg (fun q => by rw [hc] at q; cases q.1)]
    exact hc
theorem cut_lab {l : List UInt8} {k : Nat} (hk : k ≤ l.length) {rc r : Rd} (h : Cut l k rc r) (hg : (labR l r).err = 0) : Cut l k (labR (l.take k) rc) (labR l r) := by
  unfold labR at hg ⊢
  have h3 := err_of_bad (f := u8R l) u8R_bad hg
  have h2 := err_of_bad (f := u8R l) u8R_bad h3
  have h1 := err_of_bad (f := u8R l) u8R_bad h2
  exact (cut_u8 hk (cut_u8 hk (cut_u8 hk (cut_u8 hk h h1).1 h2).1 h3).1 hg).1
theorem cut_num {l : List UInt8} {k : Nat} (hk : k ≤ l.length) {rc r : Rd} (h : Cut l k rc r) (hg : (numR8 l r).err = 0) : Cut l k (numR8 (l.take k) rc) (numR8 l r) := by
  unfold numR8 at *
  have key : ∀ j, j ≤ 8 → Cut l k (numR (l.take k) rc j) (numR l r j) := fun j => by
    induction j with
    | zero => intro _; exact h
    | succ j ih =>
      intro hj
      exact (cut_u8 hk (ih (by omega)) (numR_good (k := 8) hg (i := j + 1) hj)).1
  exact key 8 (Nat.le_refl _)
theorem cut_grs {l : List UInt8} {k : Nat} (hk : k ≤ l.length) {rc r : Rd} (h : Cut l k rc r) (n : Nat) (hg : (grT l r n).2.err = 0) : Cut l k (grT (l.take k) rc n).2 (grT l r n).2 := by
  induction n with
  | zero => exact h
  | succ n ih =>
    have hn := grT_good hg (i := n) (by omega)
    have hc := ih hn
    have e : grT l r (n + 1) = ((grT l r n).1 ++ [⟨textV l (grT l r n).2, ((u8V l (textR l (grT l r n).2) : Nat) : Int)⟩], u8R l (textR l (grT l r n).2)) := by rw [grT, if_pos hn]
    rw [e] at hg ⊢
    have ht := err_of_bad (f := u8R l) u8R_bad hg
    by_cases h0 : (grT (l.take k) rc n).2.err = 0
    · rw [grT, if_pos h0]
      exact (cut_u8 hk (cut_text hk hc ht) hg).1
    · rw [grT, if_neg h0]
      rcases hc with ⟨hc1, _⟩ | hc
      · rw [hc1] at h0; exact absurd hn h0
      · exact .inr hc
theorem cut_wds {l : List UInt8} {k : Nat} (hk : k ≤ l.length) {rc r : Rd} (h : Cut l k rc r) (n : Nat) (hg : (wdT l r n).2.err = 0) : Cut l k (wdT (l.take k) rc n).2 (wdT l r n).2 := by
  induction n with
  | zero => exact h
  | succ n ih =>
    have hn := wdT_good hg (i := n) (by omega)
    have hc := ih hn
    have e : wdT l r (n + 1) = ((wdT l r n).1 ++ [numV l (wdT l r n).2], numR8 l (wdT l r n).2) := by rw [wdT, if_pos hn]
    rw [e] at hg ⊢
    by_cases h0 : (wdT (l.take k) rc n).2.err = 0
    · rw [wdT, if_pos h0]
      exact cut_num hk hc hg
    · rw [wdT, if_neg h0]
      rcases hc with ⟨hc1, _⟩ | hc
      · rw [hc1] at h0; exact absurd hn h0
      · exact .inr hc
theorem nod_cut {l : List UInt8} (h : nodE l = 0) {k : Nat} (hk : k < l.length) : nodE (l.take k) = 8 := by
  obtain ⟨h12, hlen⟩ := end_zero h
  have h11 : (nodR11 l).err = 0 := wdT_good (i := 0) h12 (Nat.zero_le _)
  have h10 : (nodR10 l).err = 0 := err_of_bad (f := u8R l) u8R_bad h11
  have h9 : (nodR9 l).err = 0 := err_of_bad (f := u8R l) u8R_bad h10
  have h8 : (nodR8 l).err = 0 := err_of_bad (f := u8R l) u8R_bad h9
  have h7 : (nodR7 l).err = 0 := err_of_bad (f := u8R l) u8R_bad h8
  have h6 : (nodR6 l).err = 0 := err_of_bad (f := u8R l) u8R_bad h7
  have h5 : (nodR5 l).err = 0 := grT_good (i := 0) h6 (Nat.zero_le _)
  have h4 : (nodR4 l).err = 0 := err_of_bad (f := u8R l) u8R_bad h5
  have h3 : (nodR3 l).err = 0 := err_of_bad (f := labR l) labR_bad h4
  have h2 : (nodR2 l).err = 0 := err_of_bad (f := labR l) labR_bad h3
  have h1 : (nodR1 l).err = 0 := err_of_bad (f := dirR l) dirR_bad h2
  have hk' : k ≤ l.length := by omega
  have c0 : Cut l k (nodR0 (l.take k)) (nodR0 l) := .inl ⟨rfl, Nat.zero_le _⟩
  have c1 : Cut l k (nodR1 (l.take k)) (nodR1 l) := cut_text hk' c0 h1
  have c2 : Cut l k (nodR2 (l.take k)) (nodR2 l) := cut_dir hk' c1 h2
  have c3 : Cut l k (nodR3 (l.take k)) (nodR3 l) := cut_lab hk' c2 h3
  have c4 : Cut l k (nodR4 (l.take k)) (nodR4 l) := cut_lab hk' c3 h4
  obtain ⟨c5, v5⟩ : Cut l k (nodR5 (l.take k)) (nodR5 l) ∧ ((nodR5 (l.take k)).err = 0 → u8V (l.take k) (nodR4 (l.take k)) = u8V l (nodR4 l)) := cut_u8 hk' c4 h5
  have c6 : Cut l k (nodR6 (l.take k)) (nodR6 l) := by
    by_cases h0 : (nodR5 (l.take k)).err = 0
    · have := cut_grs hk' c5 (u8V l (nodR4 l)) h6
      unfold nodR6 nodGs
      rw [v5 h0]
      exact this
    · rcases c5 with ⟨q, _⟩ | q
      · rw [q] at h0; exact absurd h5 h0
      · refine .inr ?_
        unfold nodR6 nodGs
        rw [grT_bad h0]
        exact q
  have c7 : Cut l k (nodR7 (l.take k)) (nodR7 l) := (cut_u8 hk' c6 h7).1
  have c8 : Cut l k (nodR8 (l.take k)) (nodR8 l) := (cut_u8 hk' c7 h8).1
  have c9 : Cut l k (nodR9 (l.take k)) (nodR9 l) := (cut_u8 hk' c8 h9).1
  have c10 : Cut l k (nodR10 (l.take k)) (nodR10 l) := (cut_u8 hk' c9 h10).1
  obtain ⟨c11, v11⟩ : Cut l k (nodR11 (l.take k)) (nodR11 l) ∧ ((nodR11 (l.take k)).err = 0 → u8V (l.take k) (nodR10 (l.take k)) = u8V l (nodR10 l)) := cut_u8 hk' c10 h11
  have c12 : Cut l k (nodR12 (l.take k)) (nodR12 l) := by
    by_cases h0 : (nodR11 (l.take k)).err = 0
    · have := cut_wds hk' c11 (u8V l (nodR10 l)) h12
      unfold nodR12 nodWs
      rw [v11 h0]
      exact this
    · rcases c11 with ⟨q, _⟩ | q
      · rw [q] at h0; exact absurd h11 h0
      · refine .inr ?_
        unfold nodR12 nodWs
        rw [wdT_bad h0]
        exact q
  rcases c12 with ⟨_, q⟩ | q
  · omega
  · unfold nodE endV
    rw [if_neg (fun z => by rw [q] at z; cases z.1)]
    exact q
/-- A node has as many bytes as its parts tell. -/
theorem encN_len (n : Nod) : (encN n).length = 1 + n.path.size + 1 + 8 + 1 + 4 + 1 + 8 * n.words.length + (n.acl.map fun g => 2 + g.u.size).sum := by
  unfold encN
  have h1 : (n.acl.flatMap encG).length = (n.acl.map fun g => 2 + g.u.size).sum := by
    rw [List.length_flatMap]
    congr 1
    refine List.map_congr_left fun g _ => ?_
    simp [encG, encT_len]
    omega
  have h2 : (n.words.flatMap encW).length = 8 * n.words.length := by
    induction n.words with
    | nil => rfl
    | cons x r ih => rw [List.flatMap_cons, List.length_append, encW_len, ih, List.length_cons]; omega
  simp [encT_len, encL_len, h1, h2]
  omega
end Go.Proofs.Ytecleampjeebaaa
