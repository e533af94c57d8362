/-
  WHAT THE LAWS OF CHAPTER 16 SHARE: states and memories wherever they lie; what a step may answer.
-/
import Derived.Test.YtinibccphecdfaaWCpuMemo
namespace Go.Proofs.Ytinibccphecdfaa
open Go.RowKit
set_option maxRecDepth 8000
set_option linter.unusedSimpArgs false
set_option linter.unusedVariables false

theorem SV.ownA {e : TypeId} {v : Value} {st : List Fr} {W : World} {L : Nat} (h : OwnR e 3 frc W L v st) : SV v st W := by
  obtain ⟨a, cap, hv, -, hn, hr⟩ := h.slice frc_len
  exact ⟨a, cap, hv, hn, hr⟩
theorem cstateV (c : Cp) (h4 : c.ps.length = 4) (hn : c.st.length ≤ 1000) (v : Value) (w : World) (hv : SV v c.st w) :
    Calls Try.prog 14 #[.agg (stCs c v).toArray] w fun e w' => ∃ u, e = .returned (.agg (stCs c u).toArray) ∧ SV u c.st w' ∧ Below w.heap.size w w' := by
  obtain ⟨a1, c1, rfl, -, hr⟩ := hv
  refine (cstate_any c h4 a1 c1 w hn hr).mono ?_
  rintro e w' ⟨u, rfl, ho, hb⟩
  exact ⟨u, rfl, SV.ownA ho, hb⟩
theorem csameV (c : Cp) (h4 : c.ps.length = 4) (hn : c.st.length ≤ 1000) (v u : Value) (w : World) (hv : SV v c.st w) (hu : SV u c.st w) :
    Calls Try.prog 13 #[.agg (stCs c v).toArray, .agg (stCs c u).toArray] w fun e w' => e = .returned (.bool true) ∧ Below w.heap.size w w' := by
  obtain ⟨a1, c1, rfl, -, hr⟩ := hv
  obtain ⟨a2, c2, rfl, -, hr2⟩ := hu
  exact csame_any c h4 a1 a2 c1 c2 w hn hr hr2
theorem st_setHl3 {c : Cp} (h : c.ps.length = 4) (v : Value) (b : Bool) : (stCs c v).set 17 (.bool b) = stCs { c with hl := b } v := by
  obtain ⟨p0, p1, p2, p3, hl⟩ := four h
  obtain ⟨s, o, rg, a, ps, st, hl'⟩ := c
  simp only at hl
  subst hl
  rfl
theorem StAt.setHl3 {b : Nat} {c : Cp} {v : Value} {W : World} (h : StAt b c v W) (t : Bool) : StAt b { c with hl := t } v (W.setCell ⟨b, 17, none⟩ (.bool t)) := by
  have h1 := h.blk.1.set 17 (.bool t) (by rw [st_len h.ps]; decide)
  rw [st_setHl3 h.ps] at h1
  exact ⟨h.ps, h1, h1.lt (List.getElem?_eq_getElem (by rw [st_len (show ({ c with hl := t } : Cp).ps.length = 4 from h.ps)]; decide : 0 < (stCs { c with hl := t } v).length))⟩
/-- A memory's segments, wherever they lie. -/
def MV (v : Value) (M : List PG) (W : World) : Prop := ∃ a cap, v = .slice a M.length cap ∧ RowG W a M ∧ MG M ∧ (a = none → cap = 0)
theorem MV.below {v : Value} {M : List PG} {W W' : World} (h : MV v M W) (b : Below W.heap.size W W') : MV v M W' := by
  obtain ⟨a, cap, hv, hr, hm, hn⟩ := h
  exact ⟨a, cap, hv, hr.below b, hm, hn⟩
theorem MV.made {L B : Nat} {v : Value} {M : List PG} {W : World} (ho : OwnR 57 7 PG.cs W L v M) (hm : MadeM W B M) (hl : M.length < 1000000) (hk : ∀ g ∈ M.map (·.g), g.Ok) : MV v M W := by
  obtain ⟨a, cap, hv, -, hn, hr⟩ := ho.slice pg_len
  exact ⟨a, cap, hv, hm.row hr, hm.mg hl hk, hn⟩
theorem MV.one {v : Value} {M : List PG} {W : World} (h : MV v M W) : v.oneCell' = true := by
  obtain ⟨a, cap, rfl, -⟩ := h
  rfl
/-- A memory that is boxed. -/
theorem MV.box {M : List PG} {W : World} {a : Option Addr} {n cap : Nat} (h : MV (.slice a n cap) M W) (T : TypeId) : n = M.length ∧ MemO W.heap.size a cap M false 0 0 0 0 (W.alloc (.cells #[.slice a n cap, .bool false, .int .i64 0, .int .i64 0, .int .i64 0, .int .i64 0] T)) := by
  obtain ⟨a', cap', hv, hr, hm, hn⟩ := h
  injection hv with e1 e2 e3
  subst e1 e2 e3
  exact ⟨rfl, ⟨hm, ⟨by decide, by decide⟩, blkl_alloc W (memCs (.slice a M.length cap) false 0 0 0 0).toArray T, hr.below (alloc_below W _)⟩⟩
theorem memPc_len (l : List PP) : (memPc l).length ≤ 5 := by
  unfold memPc
  rw [List.length_map, List.length_take]
  omega
/-- A fault answers nothing beside it. -/
def FltOk (O : Ot) : Prop := O.e = 0 ∨ ∃ e, O = flt e ∧ 31 ≤ e ∧ e ≤ 37
theorem flt_ok {e : Int} (h : e = 0 ∨ 31 ≤ e ∧ e ≤ 37) : FltOk (flt e) := by
  rcases h with h | h
  · exact .inl h
  · exact .inr ⟨e, rfl, h⟩
theorem ite_flt {p : Prop} [Decidable p] {x y : Ot} (h1 : FltOk x) (h2 : FltOk y) : FltOk (if p then x else y) := by
  split
  · exact h1
  · exact h2
theorem rdE_b (c : Cp) (m : List Sg) (i : Ins) : rdE c m i = 0 ∨ 31 ≤ rdE c m i ∧ rdE c m i ≤ 37 := by
  unfold rdE
  repeat' split
  all_goals omega
theorem wrE_b (c : Cp) (m : List Sg) (i : Ins) : wrE c m i = 0 ∨ 31 ≤ wrE c m i ∧ wrE c m i ≤ 37 := by
  unfold wrE
  repeat' split
  all_goals omega
theorem clE_b (c : Cp) (m : List Sg) (i : Ins) : clE c m i = 0 ∨ 31 ≤ clE c m i ∧ clE c m i ≤ 37 := by
  unfold clE
  repeat' split
  all_goals omega
theorem rtE_b (c : Cp) : rtE c = 0 ∨ 31 ≤ rtE c ∧ rtE c ≤ 37 := by
  unfold rtE
  repeat' split
  all_goals omega
theorem fetE_b (c : Cp) (m : List Sg) : fetE c m = 0 ∨ 31 ≤ fetE c m ∧ fetE c m ≤ 37 := by
  unfold fetE
  repeat' split
  all_goals omega
theorem op_flt (c : Cp) (m : List Sg) (i : Ins) : FltOk (opC c m i) := by
  unfold opC
  repeat' (refine ite_flt ?_ ?_)
  all_goals first | exact .inl rfl | exact flt_ok (rdE_b _ _ _) | exact flt_ok (wrE_b _ _ _) | exact flt_ok (clE_b _ _ _) | exact flt_ok (rtE_b _) | exact flt_ok (by omega)
theorem step_flt (c : Cp) (m : List Sg) : FltOk (stepC c m) := by
  unfold stepC
  exact ite_flt (.inl rfl) (ite_flt (flt_ok (fetE_b _ _)) (op_flt _ _ _))
theorem StP.noW {bm : Nat} {sl : Value} {n : Int} {O : Ot} {w w' : World} {e : Ending} (h : StP bm sl n O w e w') (hr : O.wr = none) : ∃ v', e = .returned (.tuple #[.agg (stCs O.t v').toArray, .int .i64 O.v, .bool O.told, .int .i64 O.e]) ∧ OwnR 84 3 frc w' w.heap.size v' O.t.st ∧ Below w.heap.size w w' := by
  obtain ⟨v, rfl, ho, hw⟩ := h
  rw [hr] at hw
  exact ⟨v, rfl, ho, hw⟩
theorem StP.isW {bm : Nat} {sl : Value} {n : Int} {O : Ot} {w w' : World} {e : Ending} {k o y : Int} (h : StP bm sl n O w e w') (hr : O.wr = some (k, o, y)) : ∃ v', e = .returned (.tuple #[.agg (stCs O.t v').toArray, .int .i64 O.v, .bool O.told, .int .i64 O.e]) ∧ OwnR 84 3 frc w' w.heap.size v' O.t.st ∧ BlkL bm (memCs sl true k o y (n + 1)) w' ∧ Sole bm w w' := by
  obtain ⟨v, rfl, ho, hw⟩ := h
  rw [hr] at hw
  exact ⟨v, rfl, ho, hw⟩
/-- A memory that stays, whatever becomes of the block bs. -/
def MVR (bs : Nat) (v : Value) (M : List PG) (W : World) : Prop := ∀ W', Sole bs W W' → MV v M W'
theorem MVR.mv {bs : Nat} {v : Value} {M : List PG} {W : World} (h : MVR bs v M W) : MV v M W := h W ⟨rfl, rfl, rfl, Nat.le_refl _, fun _ _ _ => rfl⟩
theorem MVR.sole {bs : Nat} {v : Value} {M : List PG} {W W' : World} (h : MVR bs v M W) (k : Sole bs W W') : MVR bs v M W' := fun W2 k2 => h W2 (k.trans k2)
theorem MVR.below {bs : Nat} {v : Value} {M : List PG} {W W' : World} (h : MVR bs v M W) (k : Below W.heap.size W W') : MVR bs v M W' := h.sole (Sole.of k)
theorem MVR.of {v : Value} {M : List PG} {W W' : World} (h : MV v M W) (k : Below W.heap.size W W') : MVR W.heap.size v M W' := fun W2 k2 => h.below (k2.below k (Nat.le_refl _) k.size)
/-- A step's answer, whether it wrote or not. -/
theorem StP.uni {bm : Nat} {sl : Value} {is : Bool} {s o y n : Int} {O : Ot} {w w' : World} {e : Ending} (h : StP bm sl n O w e w') (hm : BlkL bm (memCs sl is s o y n) w) : ∃ v' is' s' o' y' n', e = .returned (.tuple #[.agg (stCs O.t v').toArray, .int .i64 O.v, .bool O.told, .int .i64 O.e]) ∧ OwnR 84 3 frc w' w.heap.size v' O.t.st ∧ BlkL bm (memCs sl is' s' o' y' n') w' ∧ Sole bm w w' ∧ ((O.wr = none ∧ is' = is ∧ s' = s ∧ o' = o ∧ y' = y ∧ n' = n) ∨ (O.wr = some (s', o', y') ∧ is' = true ∧ n' = n + 1)) := by
  cases hr : O.wr with
  | none =>
    obtain ⟨v, he, ho, hb⟩ := h.noW hr
    exact ⟨v, is, s, o, y, n, he, ho, stab_blk _ _ _ _ hm hb, Sole.of hb, .inl ⟨rfl, rfl, rfl, rfl, rfl, rfl⟩⟩
  | some p =>
    obtain ⟨k, q, z⟩ := p
    obtain ⟨v, he, ho, hb, hs⟩ := h.isW hr
    exact ⟨v, true, k, q, z, n + 1, he, ho, hb, hs, .inr ⟨rfl, rfl, rfl⟩⟩
theorem msegV (bm : Nat) (a : Option Addr) (cap : Nat) (m : List PG) (k : Int) (hMG : MG m) (w : World) (hM : MAt bm a cap m w) :
    Calls Try.prog 19 #[.pointer (some ⟨bm, 0, none⟩), .int .i64 k] w fun e w' => ∃ v, e = .returned (.tuple #[.agg (sg6 (tellG (kn (m.map (·.g)) k)) v).toArray, .bool (kn (m.map (·.g)) k).is]) ∧ OwnR 2 1 wcl w' w.heap.size v (tellG (kn (m.map (·.g)) k)).ws ∧ Below w.heap.size w w' := by
  unfold tellG
  by_cases h : (kn (m.map (·.g)) k).is = true
  · rw [if_pos h, h]
    exact mseg_some bm a cap m k hMG.len hMG.ok hMG.cap w hM h
  · have h0 : (kn (m.map (·.g)) k).is = false := by simpa using h
    rw [if_neg h, h0]
    refine (mseg_none bm a cap m k hMG.len w hM h0).mono ?_
    rintro e w' ⟨rfl, hb⟩
    exact ⟨nilS, rfl, OwnR.nil _ _ _ _ _, hb⟩
theorem sg6_one3 (g : Sg) {v : Value} (hv : v.oneCell' = true) : ∀ u ∈ sg6 g v, u.oneCell' = true := fun u hu => by
  simp [sg6] at hu
  rcases hu with rfl | rfl | rfl | rfl | rfl | rfl
  · exact hv
  all_goals rfl
theorem MV.mg {v : Value} {M : List PG} {W : World} (h : MV v M W) : MG M := by
  obtain ⟨a, cap, -, -, hm, -⟩ := h
  exact hm
end Go.Proofs.Ytinibccphecdfaa
