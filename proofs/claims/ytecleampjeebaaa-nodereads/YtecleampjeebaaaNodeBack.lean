/-
  MESSAGES AND ENTRIES, WRITTEN AND READ AGAIN.
-/
import Derived.Test.YtecleampjeebaaaNodePure
import Derived.Test.YtecleampjeebaaaNodeRefMsg
import Derived.Test.YtecleampjeebaaaNodeRefEnt
namespace Go.Proofs.Ytecleampjeebaaa
open Go.RowKit
set_option linter.unusedSimpArgs false
set_option linter.unusedVariables false

theorem end_all (l : List UInt8) : endV l ⟨l.length, 0⟩ = 0 := by
  unfold endV
  rw [if_neg (fun h => Nat.lt_irrefl _ h.2)]
structure Msg.Plain (m : Msg) : Prop where
  f : m.from_.size < 256
  l : m.label.Byte
  t : m.to_.size < 256
  b : m.box.Byte
  x : m.text.size < 256
theorem msg_back (m : Msg) (h : m.Plain) : msgP (encM m) = m ∧ msgE (encM m) = 0 := by
  have t0 := text_back [] (encL m.label ++ encT m.to_ ++ encL m.box ++ encT m.text) m.from_ h.f
  have t1 := lab_back (encT m.from_) (encT m.to_ ++ encL m.box ++ encT m.text) m.label h.l
  have t2 := text_back (encT m.from_ ++ encL m.label) (encL m.box ++ encT m.text) m.to_ h.t
  have t3 := lab_back (encT m.from_ ++ encL m.label ++ encT m.to_) (encT m.text) m.box h.b
  have t4 := text_back (encT m.from_ ++ encL m.label ++ encT m.to_ ++ encL m.box) [] m.text h.x
  rw [show [] ++ encT m.from_ ++ (encL m.label ++ encT m.to_ ++ encL m.box ++ encT m.text) = encM m by simp [encM]] at t0
  rw [show encT m.from_ ++ encL m.label ++ (encT m.to_ ++ encL m.box ++ encT m.text) = encM m by simp [encM]] at t1
  rw [show encT m.from_ ++ encL m.label ++ encT m.to_ ++ (encL m.box ++ encT m.text) = encM m by simp [encM]] at t2
  rw [show encT m.from_ ++ encL m.label ++ encT m.to_ ++ encL m.box ++ encT m.text = encM m by simp [encM]] at t3
  rw [show encT m.from_ ++ encL m.label ++ encT m.to_ ++ encL m.box ++ encT m.text ++ [] = encM m by simp [encM], show encT m.from_ ++ encL m.label ++ encT m.to_ ++ encL m.box ++ encT m.text = encM m by simp [encM]] at t4
  rw [List.nil_append] at t0
  have r1 : msgR1 (encM m) = ⟨(encT m.from_).length, 0⟩ := t0.2
  have r2 : msgR2 (encM m) = ⟨(encT m.from_ ++ encL m.label).length, 0⟩ := by unfold msgR2; rw [r1]; exact t1.2
  have r3 : msgR3 (encM m) = ⟨(encT m.from_ ++ encL m.label ++ encT m.to_).length, 0⟩ := by unfold msgR3; rw [r2]; exact t2.2
  have r4 : msgR4 (encM m) = ⟨(encT m.from_ ++ encL m.label ++ encT m.to_ ++ encL m.box).length, 0⟩ := by unfold msgR4; rw [r3]; exact t3.2
  have r5 : msgR5 (encM m) = ⟨(encM m).length, 0⟩ := by unfold msgR5; rw [r4]; exact t4.2
  have hE : msgE (encM m) = 0 := by unfold msgE; rw [r5]; exact end_all _
  refine ⟨?_, hE⟩
  unfold msgP
  rw [if_pos hE]
  unfold msgV
  rw [r1, r2, r3, r4, t1.1, t2.1, t3.1, t4.1]
  rw [show textV (encM m) (msgR0 (encM m)) = m.from_ from t0.1]
theorem u8_back (pre rest : List UInt8) (x : Int) (h : 0 ≤ x ∧ x < 256) : ((u8V (pre ++ [lowB x] ++ rest) ⟨pre.length, 0⟩ : Nat) : Int) = x ∧ u8R (pre ++ [lowB x] ++ rest) ⟨pre.length, 0⟩ = ⟨(pre ++ [lowB x]).length, 0⟩ := by
  have := u8_at pre rest (lowB x)
  rw [show pre ++ [lowB x] ++ rest = pre ++ lowB x :: rest by simp, this.1, this.2, lowB_small h.1 h.2, List.length_append]
  exact ⟨rfl, rfl⟩
structure Ent.Plain (e : Ent) : Prop where
  q : -9223372036854775808 ≤ e.seq ∧ e.seq ≤ 9223372036854775807
  l : e.label.Byte
  u : e.user.size < 256
  v : 0 ≤ e.verb ∧ e.verb < 256
  o : e.object.size < 256
  d : 0 ≤ e.verdict ∧ e.verdict < 256
theorem ent_back (e : Ent) (h : e.Plain) : entP (encE e) = e ∧ entE (encE e) = 0 := by
  have t0 := num_back [] (encL e.label ++ encT e.user ++ [lowB e.verb] ++ encT e.object ++ [lowB e.verdict]) e.seq h.q
  have t1 := lab_back (encW e.seq) (encT e.user ++ [lowB e.verb] ++ encT e.object ++ [lowB e.verdict]) e.label h.l
  have t2 := text_back (encW e.seq ++ encL e.label) ([lowB e.verb] ++ encT e.object ++ [lowB e.verdict]) e.user h.u
  have t3 := u8_back (encW e.seq ++ encL e.label ++ encT e.user) (encT e.object ++ [lowB e.verdict]) e.verb h.v
  have t4 := text_back (encW e.seq ++ encL e.label ++ encT e.user ++ [lowB e.verb]) [lowB e.verdict] e.object h.o
  have t5 := u8_back (encW e.seq ++ encL e.label ++ encT e.user ++ [lowB e.verb] ++ encT e.object) [] e.verdict h.d
  rw [show [] ++ encW e.seq ++ (encL e.label ++ encT e.user ++ [lowB e.verb] ++ encT e.object ++ [lowB e.verdict]) = encE e by simp [encE], List.nil_append] at t0
  rw [show encW e.seq ++ encL e.label ++ (encT e.user ++ [lowB e.verb] ++ encT e.object ++ [lowB e.verdict]) = encE e by simp [encE]] at t1
  rw [show encW e.seq ++ encL e.label ++ encT e.user ++ ([lowB e.verb] ++ encT e.object ++ [lowB e.verdict]) = encE e by simp [encE]] at t2
  rw [show encW e.seq ++ encL e.label ++ encT e.user ++ [lowB e.verb] ++ (encT e.object ++ [lowB e.verdict]) = encE e by simp [encE]] at t3
  rw [show encW e.seq ++ encL e.label ++ encT e.user ++ [lowB e.verb] ++ encT e.object ++ [lowB e.verdict] = encE e by simp [encE]] at t4
  rw [List.append_nil, show encW e.seq ++ encL e.label ++ encT e.user ++ [lowB e.verb] ++ encT e.object ++ [lowB e.verdict] = encE e by simp [encE]] at t5
  have r1 : entR1 (encE e) = ⟨(encW e.seq).length, 0⟩ := t0.2
  have r2 : entR2 (encE e) = ⟨(encW e.seq ++ encL e.label).length, 0⟩ := by unfold entR2; rw [r1]; exact t1.2
  have r3 : entR3 (encE e) = ⟨(encW e.seq ++ encL e.label ++ encT e.user).length, 0⟩ := by unfold entR3; rw [r2]; exact t2.2
  have r4 : entR4 (encE e) = ⟨(encW e.seq ++ encL e.label ++ encT e.user ++ [lowB e.verb]).length, 0⟩ := by unfold entR4; rw [r3]; exact t3.2
  have r5 : entR5 (encE e) = ⟨(encW e.seq ++ encL e.label ++ encT e.user ++ [lowB e.verb] ++ encT e.object).length, 0⟩ := by unfold entR5; rw [r4]; exact t4.2
  have r6 : entR6 (encE e) = ⟨(encE e).length, 0⟩ := by unfold entR6; rw [r5]; exact t5.2
  have hE : entE (encE e) = 0 := by unfold entE; rw [r6]; exact end_all _
  refine ⟨?_, hE⟩
  unfold entP
  rw [if_pos hE]
  unfold entV
  rw [r1, r2, r3, r4, r5, t1.1, t2.1, t3.1, t4.1, t5.1]
  rw [show numV (encE e) (entR0 (encE e)) = e.seq from t0.1]
end Go.Proofs.Ytecleampjeebaaa
