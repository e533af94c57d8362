/-
  THE PARTS OF A PATH, AND WHETHER A TEXT IS ONE: the document's own (donjonref7).
-/
import Derived.Test.YtenndocmpjmgiaaDoorLPathBase
import Derived.Laws.AppendOwn
import Derived.Laws.OwnMore
import Derived.Deep.Cut
import Derived.Deep.CutRange
namespace Go.Proofs.YtenndocmpjmgiaaDoor
open Go.RowKit
set_option linter.unusedSimpArgs false
set_option linter.unusedVariables false
/-- A list of texts of the call's own. -/
def OwnS (w : World) (base : Nat) (v : Value) (l : List ByteArray) : Prop := w.ownsRow base 9 1 v l.length (l.map Value.string)
theorem ownS_nil (w : World) (base : Nat) : OwnS w base (.slice none 0 0) [] := World.ownsRow_nil _ _ _ _
theorem OwnS.slice {w : World} {base : Nat} {v : Value} {l : List ByteArray} (h : OwnS w base v l) {n : Nat} (hn : l.length = n) : ∃ a cap, v = .slice a n cap := by
  rcases h.2 with ⟨rfl, h2⟩ | ⟨g, cap, cur, rfl, _⟩
  · exact ⟨none, 0, by rw [← hn, h2]⟩
  · exact ⟨_, cap, by rw [hn]⟩
theorem OwnS.at {w : World} {base : Nat} {v : Value} {l : List ByteArray} (h : OwnS w base v l) {n : Nat} (hn : l.length = n) {i : Nat} {x : ByteArray} (hx : l[i]? = some x) : ∃ g cap, v = .slice (some ⟨g, 0, none⟩) n cap ∧ w.cell? ⟨g, i, none⟩ = some (.string x) ∧ base ≤ g ∧ g < w.heap.size := by
  have hi := (List.getElem?_eq_some_iff.1 hx).1
  have hrow : w.ownsRow base 9 1 v l.length (l.map Value.string) := h
  rcases h.2 with ⟨_, h2⟩ | ⟨g, cap, cur, rfl, hb, _⟩
  · omega
  · refine ⟨g, cap, by rw [hn], ?_, hb, (hrow.lt g rfl).2⟩
    rw [hrow.cellAt i (by omega), List.getElem?_map, hx]
    rfl
theorem OwnS.below {w w' : World} {base : Nat} {v : Value} {l : List ByteArray} (h : OwnS w base v l) (b : Below w.heap.size w w') : OwnS w' base v l := by
  refine ⟨h.1, ?_⟩
  rcases h.2 with h1 | ⟨g, cap, cur, hv, hb, hg, rest⟩
  · exact .inl h1
  · exact .inr ⟨g, cap, cur, hv, hb, (b.block g (Array.getElem?_eq_some_iff.1 hg).1).trans hg, rest⟩
theorem info_str : (Tryd.prog.info? 9).map (fun i => (i.zero, i.size, i.bytes)) = some (some (.string ⟨#[]⟩), 1, 16) := by kernel_rfl
theorem info_strs : ∃ i, Tryd.prog.info? 9 = some i ∧ i.zero = some (.string ⟨#[]⟩) ∧ i.size = 1 ∧ i.bytes = 16 := by
  have := info_str
  cases h : Tryd.prog.info? 9 with
  | none => rw [h] at this; cases this
  | some i =>
    rw [h] at this
    have hq : (i.zero, i.size, i.bytes) = (some (.string ⟨#[]⟩), 1, 16) := by simpa using this
    exact ⟨i, rfl, congrArg Prod.fst hq, congrArg (fun p => p.2.1) hq, congrArg (fun p => p.2.2) hq⟩
/-- append of one text that was typed. -/
theorem append_str (W : World) (base : Nat) (v : Value) (l : List ByteArray) (x : ByteArray) (hown : OwnS W base v l) (hb : base ≤ W.heap.size) (hl : l.length < 900000) :
    ∃ v' W', (Builtin.append_ #[51, 51] 51 #[v, .slice (some ⟨W.heap.size, 0, none⟩) 1 1]).run Tryd.prog (W.alloc (.cells #[.string x] 9)) = .ok v' W' ∧ OwnS W' base v' (l ++ [x]) ∧ Below base W W' := by
  obtain ⟨i, hi, hz, hs, hby⟩ := info_strs
  have ho : (W.alloc (.cells #[.string x] 9)).ownsRow base 9 1 v l.length (l.map Value.string) := World.ownsRow.alloc hown _
  obtain ⟨v', W', h1, h2, h3, _⟩ := run_append_own (P := Tryd.prog) (W.alloc (.cells #[.string x] 9)) base 51 51 9 i _ 1 16 Tryd.underlying51 hi hz hs hby rfl (by decide) v l.length (l.map Value.string) ho ⟨W.heap.size, 0, none⟩ 1 1 [.string x] rfl (fun j u hu => by
    have hj : j = 0 := by have := (List.getElem?_eq_some_iff.1 hu).1; simp at this; exact this
    subst hj
    simp at hu
    subst hu
    rw [show (⟨W.heap.size, 0, none⟩ : Addr).add 0 = ⟨W.heap.size, 0, none⟩ by simp [Addr.add], World.cell?_alloc_at _ _ _ _ rfl]
    rfl) (by simp [Value.oneCell']) (by simp only [maxLen]; omega) (by omega) (by simp; omega)
  refine ⟨v', W', h1, ?_, ?_⟩
  · unfold OwnS
    rw [List.map_append, List.length_append]
    exact h2
  · exact ((Below.refl base W).alloc hb _).grown h3 (by simp; omega) (fun k hk => (ho.lt k hk).1)
section
variable {ops : Array Oper} {rest : List Oper} {o : Oper} {a : Act} {w : World} {Q : Exit → Act → World → Prop}
/-- append, by its run. -/
theorem wpList_append_str (hg : o.guard = none) (x y : Operand) (ho : o.op = .call { callee := .builtin .append, args := #[x, y], argTypes := #[51, 51] }) (hty : o.type = 51) {u v r : Value} {w' : World} (hx : a.eval x = u) (hy : a.eval y = v)
    (hc : (Builtin.append_ #[51, 51] 51 #[u, v]).run Tryd.prog w = .ok r w')
    (h : wpList Tryd.prog ops Q rest (a.put o.dst r) w') : wpList Tryd.prog ops Q (o :: rest) a w := by
  refine wpList_value hg ?_ h
  unfold execOp
  simp only [ho, hty, resolve, invoke, builtin, Sem.run_bind, Sem.run_pure, Result.andThen_ok]
  simp [hx, hy, hc, Result.andThen]
end

/-- The parts that end among the first i places, and where the next one begins. -/
def partsTo (u : ByteArray) : Nat → Nat × List ByteArray
  | 0 => (1, [])
  | i + 1 => if i + 1 = u.size ∨ u.data.toList.getD (i + 1) 0 = 47 then (i + 2, (partsTo u i).2 ++ [u.extract (partsTo u i).1 (i + 1)]) else partsTo u i
def partsOf (u : ByteArray) : List ByteArray := if u.size ≤ 1 then [] else (partsTo u u.size).2
theorem partsTo_lo (u : ByteArray) : ∀ i, 1 ≤ (partsTo u i).1 ∧ (partsTo u i).1 ≤ i + 1 ∧ (partsTo u i).2.length ≤ i
  | 0 => ⟨Nat.le_refl _, Nat.le_refl _, Nat.le_refl _⟩
  | i + 1 => by
    obtain ⟨h1, h2, h3⟩ := partsTo_lo u i
    unfold partsTo
    split
    · refine ⟨by simp, by simp, by simp; omega⟩
    · exact ⟨h1, by omega, by omega⟩

set_option maxHeartbeats 4000000 in
theorem rparts_any (u : ByteArray) (hu : u.size ≤ 100000) (w : World) :
    Calls Tryd.prog 30 #[.string u] w fun e w' => ∃ v, e = .returned v ∧ OwnS w' w.heap.size v (partsOf u) ∧ Below w.heap.size w w' := by
  by_cases h1 : u.size ≤ 1
  · have e : partsOf u = [] := by rw [partsOf, if_pos h1]
    rw [e]
    go_enter Tryd.func30, Tryd.ntmps30
    go_wp2
    go_loopw [3, 5] (fun t3 t5 wr => t3 = .slice none 0 0 ∧ t5 = .int .i64 1 ∧ wr = w) (fun _ _ _ => 0)
    case atStart => exact ⟨rfl, rfl, rfl⟩
    case round =>
      obtain ⟨rfl, rfl, rfl⟩ := hrel
      by_cases h0 : u.size = 1
      · have h2 : ¬ (1 : Int) < (u.size : Int) := by omega
        have h3 : (1 : Int) ≤ (u.size : Int) := by omega
        go_wp2
        go_ret
        exact ⟨.slice none 0 0, rfl, ownS_nil _ _, Below.refl _ _⟩
      · have h3 : ¬ (1 : Int) ≤ (u.size : Int) := by omega
        go_wp2
        go_ret
        exact ⟨.slice none 0 0, rfl, ownS_nil _ _, Below.refl _ _⟩
  · have e : partsOf u = (partsTo u u.size).2 := by rw [partsOf, if_neg h1]
    rw [e]
    clear e
    have h1' : (1 : Int) < (u.size : Int) := by omega
    go_enter Tryd.func30, Tryd.ntmps30
    go_wp2
    go_loopw [3, 4, 5] (fun t3 t4 t5 wr => ∃ i : Nat, i ≤ u.size ∧ t5 = .int .i64 ((i : Int) + 1) ∧ t4 = .int .i64 ((partsTo u i).1 : Nat) ∧ OwnS wr w.heap.size t3 (partsTo u i).2 ∧ Below w.heap.size w wr) (fun _ _ t5 _ => u.size + 1 - (Go.RowKit.intOf t5).toNat)
    case atStart => exact ⟨0, by omega, rfl, rfl, ownS_nil _ _, Below.refl _ _⟩
    case round =>
      obtain ⟨i, hi, rfl, rfl, ho, hB⟩ := hrel
      obtain ⟨p1, p2, p3⟩ := partsTo_lo u i
      obtain ⟨fr, hfr⟩ : ∃ fr, (partsTo u i).1 = fr := ⟨_, rfl⟩
      obtain ⟨ps, hps⟩ : ∃ ps, (partsTo u i).2 = ps := ⟨_, rfl⟩
      rw [hps] at ho p3
      rw [hfr] at p1 p2 ⊢
      by_cases hlt : i < u.size
      · obtain ⟨v2, W2, hap, ho2, hB2⟩ := append_str wr w.heap.size u3 ps (u.extract fr (i + 1)) ho hB.size (by omega)
        have hBn : Below w.heap.size w W2 := hB.trans hB2
        have hstep : ∀ b : Bool, decide (i + 1 = u.size ∨ u.data.toList.getD (i + 1) 0 = 47) = b → partsTo u (i + 1) = if b = true then (i + 2, ps ++ [u.extract fr (i + 1)]) else (fr, ps) := fun b hb => by
          show (if i + 1 = u.size ∨ u.data.toList.getD (i + 1) 0 = 47 then (i + 2, (partsTo u i).2 ++ [u.extract (partsTo u i).1 (i + 1)]) else partsTo u i) = _
          cases b
          · rw [if_neg (of_decide_eq_false hb), if_neg (by simp), ← hfr, ← hps]
          · rw [if_pos (of_decide_eq_true hb), if_pos rfl, hfr, hps]
        have c1 : (i : Int) + 1 ≤ (u.size : Int) := by omega
        have c2 : (fr : Int) ≤ (i : Int) + 1 := by omega
        have c3 : fr ≤ i + 1 := by omega
        obtain ⟨b, hb⟩ : ∃ b, decide (i + 1 = u.size ∨ u.data.toList.getD (i + 1) 0 = 47) = b := ⟨_, rfl⟩
        have hs := hstep b hb
        clear hstep
        go_upto_region 6 with fail
        go_cut [26] from 17 to 25 (fun c wx => c = .bool b ∧ wx = wr)
        case first =>
          clear hap hs
          by_cases hend : i + 1 = u.size
          · obtain rfl : b = true := by rw [← hb]; simp [hend]
            have e1 : ((i : Int) + 1 == (u.size : Int)) = true := by simp; omega
            have e2 : (i : Int) + 1 = (u.size : Int) := by omega
            as_aux_lemma =>
              go_wp2_with fail
              go_meet
              exact ⟨rfl, rfl⟩
          · have hlt2 : i + 1 < u.size := by omega
            have hby := byte_at hlt2
            obtain ⟨k, hk⟩ : ∃ k : Nat, (u[i + 1]'hlt2).toNat = k := ⟨_, rfl⟩
            have e1 : ((i : Int) + 1 == (u.size : Int)) = false := by simp; omega
            have e2 : ¬ (i : Int) + 1 = (u.size : Int) := by omega
            have hbk : b = ((k : Int) == 47) := by
              rw [← hb, hby]
              have : (u[i + 1]'hlt2 = 47) ↔ k = 47 := ⟨fun e => by rw [← hk, e]; rfl, fun e => by apply UInt8.toNat_inj.1; rw [hk, e]; rfl⟩
              by_cases h9 : k = 47
              · simp [this, h9]
              · simp [this, h9, hend]; omega
            clear hby hb
            as_aux_lemma =>
              go_wp2_with fail
              go_meet
              exact ⟨by rw [hbk], rfl⟩
        case rest =>
          obtain ⟨rfl, hwc⟩ := hcut
          have hwc := hwc.symm
          subst hwc
          clear hb
          cases b
          · rw [if_neg (by simp)] at hs
            as_aux_lemma =>
              go_wp2_with fail
              exact ⟨⟨i + 1, by omega, by simp, by rw [hs], by rw [hs]; exact ho, hB⟩, by simp [Go.RowKit.intOf]; omega⟩
          · rw [if_pos rfl] at hs
            as_aux_lemma =>
              go_wp2_with (first | (refine wpList_append_str rfl _ _ rfl rfl rfl rfl hap ?_) | fail)
              exact ⟨⟨i + 1, by omega, by simp, by rw [hs]; simp; omega, by rw [hs]; exact ho2, hBn⟩, by simp [Go.RowKit.intOf]; omega⟩
      · obtain rfl : i = u.size := by omega
        have h3 : ¬ ((u.size : Int) + 1) ≤ (u.size : Int) := by omega
        go_wp2
        go_ret
        exact ⟨u3, rfl, by first | exact ho | (rw [hps]; exact ho), hB⟩
/-- What the document's own Check answers. -/
def checkOf (u : ByteArray) : Int :=
  if 78 < u.size then 5 else if eqs u slashS = true then 0 else if u.size < 2 ∨ u.data.toList.getD 0 0 ≠ 47 then 1
  else if 6 < (partsOf u).length then 1 else if (partsOf u).all name = true then 0 else 1
theorem parts_small (u : ByteArray) : ∀ x ∈ partsOf u, x.size ≤ u.size := by
  have key : ∀ i, ∀ x ∈ (partsTo u i).2, x.size ≤ u.size := by
    intro i
    induction i with
    | zero => intro x hx; simp [partsTo] at hx
    | succ i ih =>
      intro x hx
      unfold partsTo at hx
      split at hx
      · rcases List.mem_append.1 hx with hx | hx
        · exact ih x hx
        · simp at hx
          subst hx
          simp
          omega
      · exact ih x hx
  intro x hx
  unfold partsOf at hx
  split at hx
  · cases hx
  · exact key _ x hx
set_option maxHeartbeats 4000000 in
theorem rpcheck_any (u : ByteArray) (hu : u.size ≤ 100000) (w : World) :
    Calls Tryd.prog 17 #[.string u] w fun e w' => e = .returned (.int .i64 (checkOf u)) ∧ Below w.heap.size w w' := by
  unfold checkOf
  by_cases h78 : 78 < u.size
  · rw [if_pos h78]
    have h1 : (78 : Int) < (u.size : Int) := by omega
    go_enter Tryd.func17, Tryd.ntmps17
    go_wp2
    go_ret
    exact ⟨rfl, Below.refl _ _⟩
  rw [if_neg h78]
  cases hsl : eqs u slashS
  case true =>
    have hl := eqs_lit true hsl
    have hl2 : u.toList = [47] := by simpa using hl
    rw [if_pos rfl]
    go_enter Tryd.func17, Tryd.ntmps17
    go_wp2
    go_ret
    exact ⟨rfl, Below.refl _ _⟩
  have hl := eqs_lit false hsl
  have hl2 : ¬ u.toList = [47] := by simpa using hl
  rw [if_neg (by simp)]
  by_cases h2 : u.size < 2
  · rw [if_pos (.inl h2)]
    go_enter Tryd.func17, Tryd.ntmps17
    go_wp2
    go_ret
    exact ⟨rfl, Below.refl _ _⟩
  have h0 : 0 < u.size := by omega
  have hby := byte_at h0
  obtain ⟨k, hk⟩ : ∃ k : Nat, (u[0]'h0).toNat = k := ⟨_, rfl⟩
  have hk47 : u.data.toList.getD 0 0 = 47 ↔ k = 47 := by
    rw [hby]
    exact ⟨fun e => by rw [← hk, e]; rfl, fun e => by apply UInt8.toNat_inj.1; rw [hk, e]; rfl⟩
  by_cases h47 : k = 47
  · rw [if_neg (by rw [not_or]; exact ⟨h2, fun h => h (hk47.2 h47)⟩)]
    have hkb : ((k : Int) != 47) = false := by simp; omega
    have cP := rparts_any u (by omega) w
    have hsm := parts_small u
    obtain ⟨ps, hps⟩ : ∃ ps, partsOf u = ps := ⟨_, rfl⟩
    rw [hps] at cP hsm ⊢
    obtain ⟨ln, hln⟩ : ∃ ln, ps.length = ln := ⟨_, rfl⟩
    obtain ⟨r, hr⟩ : ∃ r : Int, (if 6 < ps.length then (1 : Int) else if ps.all name = true then 0 else 1) = r := ⟨_, rfl⟩
    rw [hr]
    rw [hln] at hr
    clear hk47 hby
    go_enter Tryd.func17, Tryd.ntmps17
    go_wp2_with fail
    refine cP.mono ?_
    rintro e w1 ⟨v, rfl, ho, hB⟩
    obtain ⟨a, cap, rfl⟩ := ho.slice hln
    by_cases h6 : 6 < ln
    · rw [if_pos h6] at hr
      subst hr
      go_wp2_with fail
      go_ret
      exact ⟨rfl, hB⟩
    · rw [if_neg h6] at hr
      go_wp2_with fail
      go_loopw [4] (fun t4 wr => ∃ i : Nat, i ≤ ln ∧ t4 = .int .i64 (i : Int) ∧ wr = w1 ∧ Aside (r = if (ps.drop i).all name = true then 0 else 1)) (fun t4 _ => ln - (Go.RowKit.intOf t4).toNat)
      case atStart => exact ⟨0, by omega, rfl, rfl, by rw [Aside, List.drop_zero, hr]⟩
      case round =>
        obtain ⟨i, hi, rfl, rfl, hall⟩ := hrel
        clear hr
        by_cases hlt : i < ln
        · obtain ⟨x, hx⟩ : ∃ x, ps[i]? = some x := ⟨_, List.getElem?_eq_getElem (by omega)⟩
          obtain ⟨g, cap', hv, hc, _, _⟩ := ho.at hln hx
          injection hv with q1 q2 q3
          subst q1 q3
          have hxs := hsm x (List.mem_of_getElem? hx)
          have hd : (ps.drop i).all name = (name x && (ps.drop (i + 1)).all name) := by
            have hil := (List.getElem?_eq_some_iff.1 hx).1
            rw [List.drop_eq_getElem_cons hil, List.all_cons, (List.getElem?_eq_some_iff.1 hx).2]
          rw [hd] at hall
          have cN := rname_any x (by omega)
          cases hnx : name x
          · rw [hnx] at hall cN
            obtain rfl : r = 1 := by rw [hall.out]; simp
            as_aux_lemma =>
              go_wp2_with (go_at_call 31; refine (cN _).mono ?_; rintro e w' ⟨rfl, rfl⟩)
              go_ret
              exact ⟨rfl, hB⟩
          · rw [hnx, Bool.true_and] at hall
            rw [hnx] at cN
            as_aux_lemma =>
              go_wp2_with (go_at_call 31; refine (cN _).mono ?_; rintro e w' ⟨rfl, rfl⟩)
              exact ⟨⟨i + 1, by omega, by simp, by simp, hall⟩, by simp [Go.RowKit.intOf]; omega⟩
        · obtain rfl : r = 0 := by
            rw [hall.out, List.drop_eq_nil_of_le (by omega)]
            rfl
          as_aux_lemma =>
            go_wp2_with fail
            go_ret
            exact ⟨rfl, hB⟩
  · rw [if_pos (.inr (fun h => h47 (hk47.1 h)))]
    have hkb : ((k : Int) != 47) = true := by simp; omega
    have hkc : ¬ (k : Int) = 47 := by omega
    clear hk47 hby
    go_enter Tryd.func17, Tryd.ntmps17
    go_wp2
    go_ret
    exact ⟨rfl, Below.refl _ _⟩
end Go.Proofs.YtenndocmpjmgiaaDoor
