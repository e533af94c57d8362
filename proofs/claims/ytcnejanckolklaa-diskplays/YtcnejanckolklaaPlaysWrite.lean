/-
  THE DOCUMENT'S OWN DISK: Write.
-/
import Derived.Test.YtcnejanckolklaaPlaysFlush
import Derived.Deep.Cut
import Derived.Deep.CutRange
namespace Go.Proofs.Ytcnejanckolklaa
open Go.RowKit Go.Maps
set_option linter.unusedSimpArgs false

theorem info_sc : (Try.prog.info? 61).map (fun i => (i.zero, i.size, i.bytes)) = some (some (.agg #[.int .i64 0, .slice none 0 0, .slice none 0 0, .bool false]), 4, 64) := by kernel_rfl
/-- append, of sectors. -/
theorem append_sc (w : World) (base : Nat) (v : Value) (n : Nat) (xs : List Value) (hown : w.ownsRow base 61 4 v n xs) (a : Option Addr) (m c : Nat) (news : List Value) (hl : news.length = m * 4)
    (hs : ∀ j u, news[j]? = some u → ∃ x, a = some x ∧ w.cell? (x.add j) = some u) (h1 : ∀ u ∈ news, u.oneCell' = true) (hb : base ≤ w.heap.size) (hnm : n + m < 5000) (hz : a = none → c = 0) :
    ∃ v' W', (Builtin.append_ #[48, 48] 48 #[v, .slice a m c]).run Try.prog w = .ok v' W' ∧ W'.ownsRow base 61 4 v' (n + m) (xs ++ news) ∧ w.grownBy W' v.ownBlock := by
  obtain ⟨i, hi, hzz, hsz, hby⟩ := info_parts info_sc
  cases a with
  | some x =>
    obtain ⟨v', W', h2, h3, h4, _⟩ := run_append_own (P := Try.prog) w base 48 48 61 i _ 4 64 Try.underlying48 hi hzz hsz hby rfl (by decide) v n xs hown x m c news hl
      (fun j u hu => by obtain ⟨x', hx, hc⟩ := hs j u hu; cases hx; exact hc) h1 (by simp only [maxLen]; omega) (by omega) hb
    exact ⟨v', W', h2, h3, h4⟩
  | none =>
    have hn : news = [] := by
      cases news with
      | nil => rfl
      | cons y r => obtain ⟨x, hx, _⟩ := hs 0 y rfl; cases hx
    subst hn
    obtain rfl : m = 0 := by simp at hl; omega
    obtain rfl : c = 0 := hz rfl
    refine ⟨v, w, ?_, by rw [List.append_nil, Nat.add_zero]; exact hown, ⟨rfl, rfl, rfl, Nat.le_refl _, fun _ _ _ => rfl⟩⟩
    rcases hown.2 with ⟨rfl, rfl⟩ | ⟨g, cap, cur, rfl, _, _, hle, _⟩
    · simp [Builtin.append_, run_underlying Try.underlying48, Builtin.lenOf, Builtin.firstCells, sizeOf, typeInfo, hi, storeCells]
    · simp [Builtin.append_, run_underlying Try.underlying48, Builtin.lenOf, Builtin.firstCells, sizeOf, typeInfo, hi, hle, storeCells]
section
variable {ops : Array Oper} {rest : List Oper} {o : Oper} {a : Act} {w : World} {Q : Exit → Act → World → Prop}
theorem wpList_append_sc (hg : o.guard = none) (x y : Operand) (ho : o.op = .call { callee := .builtin .append, args := #[x, y], argTypes := #[48, 48] }) (hty : o.type = 48) {u v r : Value} {w' : World} (hx : a.eval x = u) (hy : a.eval y = v)
    (hc : (Builtin.append_ #[48, 48] 48 #[u, v]).run Try.prog w = .ok r w')
    (h : wpList Try.prog ops Q rest (a.put o.dst r) w') : wpList Try.prog ops Q (o :: rest) a w := by
  refine wpList_value hg ?_ h
  unfold execOp
  simp only [ho, hty, resolve, invoke, builtin, Sem.run_bind, Sem.run_pure, Result.andThen_ok]
  simp [hx, hy, hc, Result.andThen]
/-- append of bytes, as one step of a region that draws. -/
theorem step_append {K : Act → World → Prop} {E : Prop} (hg : o.guard = none) (s x : Operand) (hop : o.op = Op.call { callee := Callee.builtin Builtin.append, args := #[s, x], argTypes := #[31, 31] }) (hty : o.type = 31) {u v r : Value} {w' : World} (hs : a.eval s = u) (hx : a.eval x = v)
    (hrun : (Builtin.append_ #[31, 31] 31 #[u, v]).run Try.prog w = .ok r w') (hK : K (a.put o.dst r) w') :
    if Region.wanted o (yielded ops a.tmps) = true then Oper.wp Try.prog o a w K Q else E := by
  have hw : Region.wanted o (yielded ops a.tmps) = true := by simp [Region.wanted, hg]
  rw [if_pos hw]
  unfold Oper.wp
  simp [execOp, hop, hty, resolve, invoke, builtin, hs, hx, hrun, Result.andThen]
  exact hK
end

/-- Where a part of a slice begins. -/
def sub (a : Option Addr) (c cap : Nat) : Option Addr := if cap = c then a else a.map (fun x => x.add (c * 4))
theorem slice_to (w : World) (a : Option Addr) (n cap c : Nat) (hc : c ≤ n) (hn : n ≤ cap) (hz : a = none → cap = 0) :
    (Instr.slice 48 (.slice a n cap) none (some (.int .i64 (c : Int))) none).run Try.prog w = .ok (.slice a c cap) w := by
  obtain ⟨i, hi, _, hsz, _⟩ := info_parts info_sc
  have h1 : c ≤ cap := by omega
  have ha : ∀ x : Addr, x.add 0 = x := fun x => by simp [Addr.add]
  cases a <;> simp [Instr.slice, run_underlying Try.underlying48, Instr.sliceBounds, Instr.sliceBound, asIntOf, sizeOf, typeInfo, hi, hsz, h1, ha]
theorem slice_from (w : World) (a : Option Addr) (n cap c : Nat) (hc : c ≤ n) :
    (Instr.slice 48 (.slice a n cap) (some (.int .i64 (c : Int))) none none).run Try.prog w = .ok (.slice (sub a c cap) (n - c) (cap - c)) w := by
  obtain ⟨i, hi, _, hsz, _⟩ := info_parts info_sc
  have h1 : c ≤ n := hc
  simp [Instr.slice, run_underlying Try.underlying48, Instr.sliceBounds, Instr.sliceBound, asIntOf, sizeOf, typeInfo, hi, hsz, h1, sub]
theorem Kept.cell {S : List Nat} {w w' : World} (k : Kept S w w') {a : Addr} {u : Value} (h : w.cell? a = some u) (ha : a.block ∉ S) : w'.cell? a = some u :=
  (World.cell?_of_block (k.block a.block (World.block_lt_of_cell? _ _ h) ha)).trans h

theorem own_ne {w : World} {base n : Nat} {v : Value} {xs : List Value} (h : w.ownsRow base 61 4 v n xs) {g : Nat} {c : Array Value} (hg : w.heap[g]? = some (.cells c 5 (0, 0))) : v.ownBlock ≠ some g := by
  intro e
  rcases h.2 with ⟨rfl, _⟩ | ⟨g', cap, cur, rfl, _, hb, _⟩
  · cases e
  · have : g' = g := by cases e; rfl
    subst this
    rw [hg] at hb
    cases hb
theorem bytes_row {w : World} {g : Nat} {l : List Int} (hs : Sec l) (hr : w.heap[g]? = some (.cells (rowOf l) 5 (0, 0))) : BytesAt w g 128 l := by
  refine ⟨row_range hr, fun j hj => ⟨?_, row_frozen hr _⟩, hs.1, hs.2, (Array.getElem?_eq_some_iff.1 hr).1⟩
  rw [Nat.zero_add, row_cell hr j (by rw [hs.1]; exact hj)]
  rfl

section
variable {w w' : World} {F : List Nat} {xb : Nat} {v : Value} {N : Nat} {es : List Sc} {done left : Int} {dead : Bool}

/-- What Write leaves. -/
def Wrote (es : List Sc) (n : Int) (l : List Int) (es' : List Sc) : Prop :=
  ∃ k, Place es n k ∧ ((∃ e g c, es[k]? = some e ∧ e.n = n ∧ es' = es.set k { e with lg := g, lc := c, last := l, d := true }) ∨
    ((∀ e, es[k]? = some e → e.n ≠ n) ∧ ∃ og oc g c, es' = es.take k ++ ⟨n, og, oc, g, c, zeros, l, true⟩ :: es.drop k))

theorem rwrite_dead (h : RefAt w F xb v N es done left true) (n : Int) (b : Value) :
    Calls Try.prog 10 #[.pointer (some ⟨xb, 0, none⟩), .int .i64 n, b] w fun e w' => e = .returned (.int .i64 12) ∧ w' = w := by
  have c4 := h.c4
  go_enter Try.func10, Try.ntmps10
  go_wp2
  go_ret
  exact ⟨rfl, rfl⟩
theorem rwrite_refuses (h : RefAt w F xb v N es done left false) (n : Int) (a : Option Addr) (bl bc : Nat) (hno : n < 0 ∨ (N : Int) ≤ n ∨ bl ≠ 128) :
    Calls Try.prog 10 #[.pointer (some ⟨xb, 0, none⟩), .int .i64 n, .slice a bl bc] w fun e w' => e = .returned (.int .i64 1) ∧ w' = w := by
  have c4 := h.c4
  have c0 := h.c0
  by_cases h0 : n < 0
  · go_enter Try.func10, Try.ntmps10
    go_wp2
    go_ret
    exact ⟨rfl, rfl⟩
  by_cases h1 : (N : Int) ≤ n
  · go_enter Try.func10, Try.ntmps10
    go_wp2
    go_ret
    exact ⟨rfl, rfl⟩
  · have h2 : ((bl : Int) != 128) = true := by simp; omega
    have h3 : ¬ (bl : Int) = 128 := by omega
    go_enter Try.func10, Try.ntmps10
    go_wp2
    go_ret
    exact ⟨rfl, rfl⟩
theorem rwrite_stops (h : RefAt w F xb v N es done left false) (hl : left = 1) (n : Int) (h0 : 0 ≤ n) (h1 : n < N) (a : Option Addr) (bc : Nat) :
    Calls Try.prog 10 #[.pointer (some ⟨xb, 0, none⟩), .int .i64 n, .slice a 128 bc] w fun e w' => e = .returned (.int .i64 12) ∧ RefAt w' F xb v N es done 0 true ∧ Kept [xb] w w' := by
  have c4 := h.c4
  have c0 := h.c0
  have cg := goes_stops h hl
  go_enter Try.func10, Try.ntmps10
  go_wp2_with fail
  refine cg.mono ?_
  rintro e w1 ⟨rfl, r1, k1⟩
  go_wp2_with fail
  go_ret
  exact ⟨rfl, r1, k1⟩

/-- The last two stores of Write. -/
theorem write_end {g cap ln k gl cl : Nat} {W : World} {xs : List Value} {es' : List Sc} (hown : W.heap[xb]? = some (.cells #[.int .i64 (N : Int), .slice (some ⟨g, 0, none⟩) ln cap, .int .i64 done, .int .i64 left, .bool dead] 50 (0, 0)))
    (hrow : W.ownsRow 0 61 4 (.slice (some ⟨g, 0, none⟩) ln cap) ln xs) (hl : es'.length = ln) (hc : esCells es' = (xs.set (k * 4 + 2) (bv gl cl)).set (k * 4 + 3) (.bool true)) (xf : xb ∉ F) (gf : g ∉ F ∧ g ≠ xb) (hfew : ln ≤ 1000)
    (hb : ∀ e ∈ es', BytesAt W e.og 128 e.on ∧ 128 ≤ e.oc ∧ BytesAt W e.lg 128 e.last ∧ 128 ≤ e.lc ∧ Far F xb (.slice (some ⟨g, 0, none⟩) ln cap) e.og ∧ Far F xb (.slice (some ⟨g, 0, none⟩) ln cap) e.lg) :
    RefAt ((W.setCell ⟨g, k * 4 + 2, none⟩ (bv gl cl)).setCell ⟨g, k * 4 + 3, none⟩ (.bool true)) F xb (.slice (some ⟨g, 0, none⟩) ln cap) N es' done left dead ∧ Kept [g] W ((W.setCell ⟨g, k * 4 + 2, none⟩ (bv gl cl)).setCell ⟨g, k * 4 + 3, none⟩ (.bool true)) := by
  have kk : Kept [g] W ((W.setCell ⟨g, k * 4 + 2, none⟩ (bv gl cl)).setCell ⟨g, k * 4 + 3, none⟩ (.bool true)) := ((Kept.refl _ W).setCell (by simp) _).setCell (by simp) _
  have hx := (Array.getElem?_eq_some_iff.1 hown).1
  refine ⟨⟨(kk.block xb hx (by simpa using gf.2.symm)).trans hown, ?_, fun e he => ?_, xf, fun b hbb => ?_, by omega⟩, kk⟩
  · rw [hl, hc]
    exact ((hrow.stored _ _).1.stored _ _).1
  · obtain ⟨b1, c1, b2, c2, f1, f2⟩ := hb e he
    have n1 : e.og ≠ g := fun x => f1.2.2 (by rw [x]; rfl)
    have n2 : e.lg ≠ g := fun x => f2.2.2 (by rw [x]; rfl)
    exact ⟨b1.kept kk (by simpa using n1), c1, b2.kept kk (by simpa using n2), c2, f1, f2⟩
  · have : b = g := by cases hbb; rfl
    subst this
    exact gf

set_option maxRecDepth 4000 in
set_option maxHeartbeats 8000000 in
theorem rwrite_any (h : RefAt w F xb v N es done left false) (hl : left ≠ 1) (ho : 0 ≤ done) (ho2 : done < 1000000) (hb : left < 9223372036854775808) (n : Int) (h0 : 0 ≤ n) (h1 : n < N) (hlen : es.length < 900) (ad : Addr) (bc : Nat) (l : List Int) (hsl : Sec l)
    (hbc : ∀ j, j < 128 → w.cell? (ad.add j) = some (.int .u8 (l.getD j 0)) ∧ (ad.add j).block ≠ xb ∧ v.ownBlock ≠ some (ad.add j).block) (hF : ∀ x ∈ F, x < w.heap.size) :
    Calls Try.prog 10 #[.pointer (some ⟨xb, 0, none⟩), .int .i64 n, .slice (some ad) 128 bc] w fun e w' => e = .returned (.int .i64 0) ∧ ∃ v' es', RefAt w' F xb v' N es' (done + 1) (if 1 < left then left - 1 else left) false ∧ Wrote es n l es' ∧ Kept (xb :: vb v) w w' ∧ ∀ b, v'.ownBlock = some b → v.ownBlock = some b ∨ w.heap.size ≤ b := by
  have c4 := h.c4
  have c0 := h.c0
  have cg := goes_any h hl ho ho2 hb
  generalize (if 1 < left then left - 1 else left) = lf at *
  obtain ⟨ln, hle⟩ : ∃ ln, es.length = ln := ⟨_, rfl⟩
  rw [hle] at hlen
  go_enter Try.func10, Try.ntmps10
  go_wp2_with fail
  refine cg.mono ?_
  rintro e w1 ⟨rfl, r1, k1⟩
  clear cg c4 c0
  have hb1 : ∀ j, j < 128 → w1.cell? (ad.add j) = some (.int .u8 (l.getD j 0)) := fun j hj => Kept.cell k1 (hbc j hj).1 (by simpa using (hbc j hj).2.1)
  go_wp2_with fail
  refine (at_any r1 n).mono ?_
  rintro e W3 ⟨k, rfl, p, rfl⟩
  have hk := p.le
  rw [hle] at hk
  obtain ⟨a, cap, rfl⟩ := r1.slice hle
  have c1 := r1.c1
  have notfound : (∀ e, es[k]? = some e → e.n ≠ n) → True := fun _ => trivial
  by_cases hfound : ∃ e, es[k]? = some e ∧ e.n = n
  · obtain ⟨e, he, hn⟩ := hfound
    have hkl := (List.getElem?_eq_some_iff.1 he).1
    rw [hle] at hkl
    obtain ⟨g, cap', hv, s0, s1, s2, s3, fz, hgx⟩ := r1.sect hle he
    injection hv with q1 q2 q3
    subst q1 q3
    have hnb : (e.n != n) = false := by simp [hn]
    have hkb : ((k : Int) == (ln : Int)) = false := by simp; omega
    have hkn : ¬ (k : Int) = (ln : Int) := by omega
    have hnn : (n != n) = false := by simp
    go_wp2_with fail
    have hown3 := r1.own
    have hrow3 := r1.row
    have hb3 := hb1
    have hg3 : g ∉ F ∧ g ≠ xb := r1.vf g rfl
    rw [hle] at hrow3
    obtain ⟨xs, hxs⟩ : ∃ xs, esCells es = xs := ⟨_, rfl⟩
    rw [hxs] at hrow3
    have kd : Kept [] W3 W3.drew := (Kept.refl [] W3).drew
    obtain ⟨W4, hW4⟩ : ∃ W4, W3.drew.alloc (.cells #[] 5) = W4 := ⟨_, rfl⟩
    have k4 : Kept [] W3 W4 := by rw [← hW4]; exact kd.alloc _
    have he4 : BytesAt W4 W3.heap.size 0 [] := by rw [← hW4]; exact empty_bytes W3.drew
    obtain ⟨gl, cl, W5, hap, hbl, k5, hfresh, hcl⟩ := append_any2 W4 W3.heap.size 0 [] he4 (some ad) 128 bc l hsl.1 (by omega) (fun j hj => ⟨ad, rfl, Kept.cell k4 (hb3 j hj) (by simp)⟩) (by simp) hsl.2
    simp only [Nat.zero_add, List.nil_append] at hap hbl hcl
    have k35 : Kept [] W3 W5 := k4.trans k5
    have hgl : W3.heap.size ≤ gl := by
      have := k4.size
      omega
    have hown5 := (k35.block xb (Array.getElem?_eq_some_iff.1 hown3).1 (by simp)).trans hown3
    have hrow5 : W5.ownsRow 0 61 4 (.slice (some ⟨g, 0, none⟩) ln cap) ln xs := row_of_block hrow3 (fun b hb => k35.block b (hrow3.lt b hb).2 (by simp))
    have hgx : g ≠ xb := hg3.2
    have hSa : (fun W : World => W.cell? ⟨xb, 1, none⟩ = some (.slice (some ⟨g, 0, none⟩) ln cap) ∧ W.frozen? ⟨g, k * 4 + 2, none⟩ = false) W3.drew := ⟨show W3.cell? ⟨xb, 1, none⟩ = _ by simp [World.cell?, hown3], hrow3.frozenAt _⟩
    have hSb : (fun W : World => W.cell? ⟨xb, 1, none⟩ = some (.slice (some ⟨g, 0, none⟩) ln cap) ∧ W.frozen? ⟨g, k * 4 + 2, none⟩ = false) W4 := by
      have o4 := (k4.block xb (Array.getElem?_eq_some_iff.1 hown3).1 (by simp)).trans hown3
      have r4 : W4.ownsRow 0 61 4 (.slice (some ⟨g, 0, none⟩) ln cap) ln xs := row_of_block hrow3 (fun b hb => k4.block b (hrow3.lt b hb).2 (by simp))
      exact ⟨by simp [World.cell?, o4], r4.frozenAt _⟩
    have hSc : (fun W : World => W.cell? ⟨xb, 1, none⟩ = some (.slice (some ⟨g, 0, none⟩) ln cap) ∧ W.frozen? ⟨g, k * 4 + 2, none⟩ = false) W5 := ⟨by simp [World.cell?, hown5], hrow5.frozenAt _⟩
    obtain ⟨W6, hW6⟩ : ∃ W6, W5.setCell ⟨g, k * 4 + 2, none⟩ (bv gl cl) = W6 := ⟨_, rfl⟩
    have hrow6 := (hrow5.stored (k * 4 + 2) (bv gl cl)).1
    rw [hW6] at hrow6
    have hown6 : W6.heap[xb]? = some (.cells #[.int .i64 (N : Int), .slice (some ⟨g, 0, none⟩) ln cap, .int .i64 (done + 1), .int .i64 lf, .bool false] 50 (0, 0)) := by
      have kk : Kept [g] W5 (W5.setCell ⟨g, k * 4 + 2, none⟩ (bv gl cl)) := (Kept.refl _ W5).setCell (by simp) _
      rw [hW6] at kk
      exact (kk.block xb (Array.getElem?_eq_some_iff.1 hown5).1 (by simpa using hgx.symm)).trans hown5
    have hSe : (fun W : World => W.cell? ⟨xb, 1, none⟩ = some (.slice (some ⟨g, 0, none⟩) ln cap) ∧ W.frozen? ⟨g, k * 4 + 2, none⟩ = false) W6 := ⟨by simp [World.cell?, hown6], hrow6.frozenAt _⟩
    have d1 : W6.cell? ⟨xb, 1, none⟩ = some (.slice (some ⟨g, 0, none⟩) ln cap) := hSe.1
    have d2 := hrow6.frozenAt (k * 4 + 3)
    have d3 : (W6.cell? ⟨g, k * 4 + 3, none⟩).isSome = true := by
      rw [hrow6.cellAt _ (by omega), List.getElem?_eq_getElem (by rw [hrow6.1]; omega)]
      rfl
    obtain ⟨d4, d5⟩ := Option.isSome_iff_exists.1 d3
    have d6 : (W5.cell? ⟨g, k * 4 + 2, none⟩).isSome = true := by
      rw [hrow5.cellAt _ (by omega), List.getElem?_eq_getElem (by rw [hrow5.1]; omega)]
      rfl
    obtain ⟨d7, d8⟩ := Option.isSome_iff_exists.1 d6
    have hes : esCells (es.set k { e with lg := gl, lc := cl, last := l, d := true }) = (xs.set (k * 4 + 2) (bv gl cl)).set (k * 4 + 3) (.bool true) := by
      have e1 := es_set2 es k e gl cl l he
      have e2 := es_set3 (es.set k { e with lg := gl, lc := cl, last := l }) k { e with lg := gl, lc := cl, last := l } true (by rw [List.getElem?_set_self (by omega)])
      rw [List.set_set] at e2
      rw [e2, e1, hxs]
    have r5 := r1.kept k35 (by simp)
    have hfin := write_end (es' := es.set k { e with lg := gl, lc := cl, last := l, d := true }) (F := F) hown5 hrow5 (by rw [List.length_set]; exact hle) hes r1.xf hg3 (by omega) (fun x hx => by
      rcases List.mem_or_eq_of_mem_set hx with hx | rfl
      · exact r5.bytes x hx
      · obtain ⟨b1, o1, b2, o2, f1, f2⟩ := r5.bytes e (List.mem_of_getElem? he)
        refine ⟨b1, o1, hbl, hcl, f1, ?_, ?_, ?_⟩
        · intro hx
          have := hF gl hx
          have := k1.size
          omega
        · have := r1.xbl
          show gl ≠ xb
          omega
        · show some g ≠ some gl
          have := (hrow3.lt g rfl).2
          intro hh
          injection hh with hh
          omega)
    have hwr : Wrote es n l (es.set k { e with lg := gl, lc := cl, last := l, d := true }) := ⟨k, p, .inl ⟨e, gl, cl, he, hn, rfl⟩⟩
    have hkk : Kept (xb :: vb (.slice (some ⟨g, 0, none⟩) ln cap)) w (W6.setCell ⟨g, k * 4 + 3, none⟩ (.bool true)) := by
      rw [← hW6]
      exact ((k1.mono (by simp)).trans (k35.mono (by simp))).trans (hfin.2.mono (by simp [vb, Value.ownBlock]))
    have hvb : ∀ b, (Value.slice (some ⟨g, 0, none⟩) ln cap).ownBlock = some b → (Value.slice (some ⟨g, 0, none⟩) ln cap).ownBlock = some b ∨ w.heap.size ≤ b := fun b h => .inl h
    rw [hW6] at hfin
    as_aux_lemma =>
      refine wp_region_held_drew (S := (fun W : World => W.cell? ⟨xb, 1, none⟩ = some (.slice (some ⟨g, 0, none⟩) ln cap) ∧ W.frozen? ⟨g, k * 4 + 2, none⟩ = false)) (by kernel_rfl) (by first | exact hSa | exact hSb | exact hSc | exact hSe) ?_
      intro hHeld
      first | (refine wpAnyH_take (i := 0) (v := ?_) (by simp only [List.getElem?_toArray, List.getElem?_cons_zero, List.getElem?_cons_succ]; rfl) (by kernel_rfl) (by kernel_rfl) (by kernel_rfl) (by exact fun _ _ _ h => h) (Or.inl ⟨by rfl, ?_⟩) (by assumption) ?_; rotate_left; (focus (intro w hSw; (try dsimp only at hSw); go_simp; try with_reducible rfl)); simp only [Act.put, List.setIfInBounds_toArray, List.set_cons_zero, List.set_cons_succ, hW4, hW6]) | (refine wpAnyH_take (i := 0) (v := undef) (by simp only [List.getElem?_toArray, List.getElem?_cons_zero, List.getElem?_cons_succ]; rfl) (by kernel_rfl) (by kernel_rfl) (by kernel_rfl) (by exact fun _ _ _ h => h) (Or.inr ⟨by rfl, rfl⟩) (by assumption) ?_; simp only [Act.put, List.setIfInBounds_toArray, List.set_cons_zero, List.set_cons_succ, hW4, hW6]) | fail
      first | (refine wpAnyH_take (i := 1) (v := ?_) (by simp only [List.getElem?_toArray, List.getElem?_cons_zero, List.getElem?_cons_succ]; rfl) (by kernel_rfl) (by kernel_rfl) (by kernel_rfl) (by exact fun _ _ _ h => h) (Or.inl ⟨by rfl, ?_⟩) (by assumption) ?_; rotate_left; (focus (intro w hSw; (try dsimp only at hSw); go_simp; try with_reducible rfl)); simp only [Act.put, List.setIfInBounds_toArray, List.set_cons_zero, List.set_cons_succ, hW4, hW6]) | (refine wpAnyH_take (i := 1) (v := undef) (by simp only [List.getElem?_toArray, List.getElem?_cons_zero, List.getElem?_cons_succ]; rfl) (by kernel_rfl) (by kernel_rfl) (by kernel_rfl) (by exact fun _ _ _ h => h) (Or.inr ⟨by rfl, rfl⟩) (by assumption) ?_; simp only [Act.put, List.setIfInBounds_toArray, List.set_cons_zero, List.set_cons_succ, hW4, hW6]) | fail
      first | (refine wpAnyH_take (i := 2) (v := ?_) (by simp only [List.getElem?_toArray, List.getElem?_cons_zero, List.getElem?_cons_succ]; rfl) (by kernel_rfl) (by kernel_rfl) (by kernel_rfl) (by exact fun _ _ _ h => h) (Or.inl ⟨by rfl, ?_⟩) (by assumption) ?_; rotate_left; (focus (intro w hSw; (try dsimp only at hSw); go_simp; try with_reducible rfl)); simp only [Act.put, List.setIfInBounds_toArray, List.set_cons_zero, List.set_cons_succ, hW4, hW6]) | (refine wpAnyH_take (i := 2) (v := undef) (by simp only [List.getElem?_toArray, List.getElem?_cons_zero, List.getElem?_cons_succ]; rfl) (by kernel_rfl) (by kernel_rfl) (by kernel_rfl) (by exact fun _ _ _ h => h) (Or.inr ⟨by rfl, rfl⟩) (by assumption) ?_; simp only [Act.put, List.setIfInBounds_toArray, List.set_cons_zero, List.set_cons_succ, hW4, hW6]) | fail
      first | (refine wpAnyH_take (i := 3) (v := ?_) (by simp only [List.getElem?_toArray, List.getElem?_cons_zero, List.getElem?_cons_succ]; rfl) (by kernel_rfl) (by kernel_rfl) (by kernel_rfl) (by exact fun _ _ _ h => h) (Or.inl ⟨by rfl, ?_⟩) (by assumption) ?_; rotate_left; (focus (intro w hSw; (try dsimp only at hSw); go_simp; try with_reducible rfl)); simp only [Act.put, List.setIfInBounds_toArray, List.set_cons_zero, List.set_cons_succ, hW4, hW6]) | (refine wpAnyH_take (i := 3) (v := undef) (by simp only [List.getElem?_toArray, List.getElem?_cons_zero, List.getElem?_cons_succ]; rfl) (by kernel_rfl) (by kernel_rfl) (by kernel_rfl) (by exact fun _ _ _ h => h) (Or.inr ⟨by rfl, rfl⟩) (by assumption) ?_; simp only [Act.put, List.setIfInBounds_toArray, List.set_cons_zero, List.set_cons_succ, hW4, hW6]) | fail
      first | (refine wpAnyH_take (i := 4) (v := ?_) (by simp only [List.getElem?_toArray, List.getElem?_cons_zero, List.getElem?_cons_succ]; rfl) (by kernel_rfl) (by kernel_rfl) (by kernel_rfl) (by exact fun _ _ _ h => h) (Or.inl ⟨by rfl, ?_⟩) (by assumption) ?_; rotate_left; (focus (intro w hSw; (try dsimp only at hSw); go_simp; try with_reducible rfl)); simp only [Act.put, List.setIfInBounds_toArray, List.set_cons_zero, List.set_cons_succ, hW4, hW6]) | (refine wpAnyH_take (i := 4) (v := undef) (by simp only [List.getElem?_toArray, List.getElem?_cons_zero, List.getElem?_cons_succ]; rfl) (by kernel_rfl) (by kernel_rfl) (by kernel_rfl) (by exact fun _ _ _ h => h) (Or.inr ⟨by rfl, rfl⟩) (by assumption) ?_; simp only [Act.put, List.setIfInBounds_toArray, List.set_cons_zero, List.set_cons_succ, hW4, hW6]) | fail
      first | (refine wpAnyH_take (i := 6) (v := ?_) (by simp only [List.getElem?_toArray, List.getElem?_cons_zero, List.getElem?_cons_succ]; rfl) (by kernel_rfl) (by kernel_rfl) (by kernel_rfl) (by exact fun _ _ _ h => h) (Or.inl ⟨by rfl, ?_⟩) (by assumption) ?_; rotate_left; (focus (intro w hSw; (try dsimp only at hSw); go_simp; try with_reducible rfl)); simp only [Act.put, List.setIfInBounds_toArray, List.set_cons_zero, List.set_cons_succ, hW4, hW6]) | (refine wpAnyH_take (i := 6) (v := undef) (by simp only [List.getElem?_toArray, List.getElem?_cons_zero, List.getElem?_cons_succ]; rfl) (by kernel_rfl) (by kernel_rfl) (by kernel_rfl) (by exact fun _ _ _ h => h) (Or.inr ⟨by rfl, rfl⟩) (by assumption) ?_; simp only [Act.put, List.setIfInBounds_toArray, List.set_cons_zero, List.set_cons_succ, hW4, hW6]) | fail
      refine wpAnyH_ready (rs := [5]) (by kernel_rfl) (by simp) ?_; refine AllReadyH.cons (by simp only [List.getElem?_toArray, List.getElem?_cons_zero, List.getElem?_cons_succ]; rfl) (fun K hK => ?_) AllReadyH.nil; go_simp; refine hK.out _ _ (by first | exact hSa | exact hSb | exact hSc | exact hSe) ?_; clear hHeld hK; intro hHeld; (try simp only [Act.put, List.setIfInBounds_toArray, List.set_cons_zero, List.set_cons_succ, hW4, hW6])
      refine wpAnyH_ready (rs := [7]) (by kernel_rfl) (by simp) ?_; refine AllReadyH.cons (by simp only [List.getElem?_toArray, List.getElem?_cons_zero, List.getElem?_cons_succ]; rfl) (fun K hK => ?_) AllReadyH.nil; refine step_append rfl _ _ rfl rfl rfl rfl hap ?_; simp only [Act.put, List.setIfInBounds_toArray, List.set_cons_zero, List.set_cons_succ, hW4, hW6]; refine hK.out _ _ (by first | exact hSa | exact hSb | exact hSc | exact hSe) ?_; clear hHeld hK; intro hHeld; (try simp only [Act.put, List.setIfInBounds_toArray, List.set_cons_zero, List.set_cons_succ, hW4, hW6])
      first | (refine wpAnyH_take (i := 8) (v := ?_) (by simp only [List.getElem?_toArray, List.getElem?_cons_zero, List.getElem?_cons_succ]; rfl) (by kernel_rfl) (by kernel_rfl) (by kernel_rfl) (by exact fun _ _ _ h => h) (Or.inl ⟨by rfl, ?_⟩) (by assumption) ?_; rotate_left; (focus (intro w hSw; (try dsimp only at hSw); go_simp; try with_reducible rfl)); simp only [Act.put, List.setIfInBounds_toArray, List.set_cons_zero, List.set_cons_succ, hW4, hW6]) | (refine wpAnyH_take (i := 8) (v := undef) (by simp only [List.getElem?_toArray, List.getElem?_cons_zero, List.getElem?_cons_succ]; rfl) (by kernel_rfl) (by kernel_rfl) (by kernel_rfl) (by exact fun _ _ _ h => h) (Or.inr ⟨by rfl, rfl⟩) (by assumption) ?_; simp only [Act.put, List.setIfInBounds_toArray, List.set_cons_zero, List.set_cons_succ, hW4, hW6]) | fail
      first | (refine wpAnyH_take (i := 9) (v := ?_) (by simp only [List.getElem?_toArray, List.getElem?_cons_zero, List.getElem?_cons_succ]; rfl) (by kernel_rfl) (by kernel_rfl) (by kernel_rfl) (by exact fun _ _ _ h => h) (Or.inl ⟨by rfl, ?_⟩) (by assumption) ?_; rotate_left; (focus (intro w hSw; (try dsimp only at hSw); go_simp; try with_reducible rfl)); simp only [Act.put, List.setIfInBounds_toArray, List.set_cons_zero, List.set_cons_succ, hW4, hW6]) | (refine wpAnyH_take (i := 9) (v := undef) (by simp only [List.getElem?_toArray, List.getElem?_cons_zero, List.getElem?_cons_succ]; rfl) (by kernel_rfl) (by kernel_rfl) (by kernel_rfl) (by exact fun _ _ _ h => h) (Or.inr ⟨by rfl, rfl⟩) (by assumption) ?_; simp only [Act.put, List.setIfInBounds_toArray, List.set_cons_zero, List.set_cons_succ, hW4, hW6]) | fail
      refine wpAnyH_ready (rs := [10]) (by kernel_rfl) (by simp) ?_; refine AllReadyH.cons (by simp only [List.getElem?_toArray, List.getElem?_cons_zero, List.getElem?_cons_succ]; rfl) (fun K hK => ?_) AllReadyH.nil; go_simp; refine hK.out _ _ (by first | exact hSa | exact hSb | exact hSc | exact hSe) ?_; clear hHeld hK; intro hHeld; (try simp only [Act.put, List.setIfInBounds_toArray, List.set_cons_zero, List.set_cons_succ, hW4, hW6])
      refine wpAnyH_done (by kernel_rfl) ?_ _
      clear hSa hSb hSc hSe hHeld
      go_wp2_with fail
      go_ret
      exact ⟨rfl, _, _, hfin.1, hwr, hkk, hvb⟩
  · have hno : ∀ e, es[k]? = some e → e.n ≠ n := fun e he hn => hfound ⟨e, he, hn⟩
    clear hfound notfound
    have hBw := k1.size
    have hxB := r1.xbl
    have hrow := r1.row
    rw [hle] at hrow
    have hva : (a = none → cap = 0) ∧ ln ≤ cap := by
      rcases hrow.2 with ⟨hv, h2⟩ | ⟨g, c, cur, hv, _, _, h2, _⟩
      · cases hv; exact ⟨fun _ => rfl, by omega⟩
      · cases hv; exact ⟨fun h => (by cases h), h2⟩
    have hsrc : ∀ j u, (esCells es)[j]? = some u → ∃ g, a = some ⟨g, 0, none⟩ ∧ W3.cell? ⟨g, j, none⟩ = some u := by
      intro j u hu
      rcases hrow.2 with ⟨hv, h2⟩ | ⟨g, c, cur, hv, _, hgg, h2, _⟩
      · have hz : es = [] := List.eq_nil_of_length_eq_zero (by omega)
        subst hz
        simp [esCells] at hu
      · cases hv
        have := hrow.cells rfl j u hu
        rw [Addr.add_mid] at this
        exact ⟨g, rfl, by simpa using this⟩
    have hcells : esCells es = esCells (es.take k) ++ esCells (es.drop k) := by rw [← es_append, List.take_append_drop]
    have hlA : (esCells (es.take k)).length = k * 4 := by rw [es_len, List.length_take]; omega
    have hlB : (esCells (es.drop k)).length = (ln - k) * 4 := by rw [es_len, List.length_drop, hle]
    have hs1 := slice_to W3 a ln cap k hk hva.2 hva.1
    obtain ⟨v1, V1, hap1, ho1, hg1⟩ := append_sc W3 W3.heap.size (.slice none 0 0) 0 [] (World.ownsRow_nil _ _ _ _) a k cap (esCells (es.take k)) hlA (fun j u hu => by
      obtain ⟨g, hg, hc⟩ := hsrc j u (by rw [hcells, List.getElem?_append_left (by rw [hlA]; have := (List.getElem?_eq_some_iff.1 hu).1; rw [hlA] at this; exact this)]; exact hu)
      exact ⟨_, hg, by rw [Addr.add_mid]; simpa using hc⟩) (es_one _) (Nat.le_refl _) (by omega) hva.1
    simp only [Nat.zero_add, List.nil_append] at ho1
    have K1 : Kept [] W3 V1 := (Kept.refl [] W3).grown hg1 (fun q hq => by cases hq)
    have hmk := make_bytes V1
    obtain ⟨V1a, hV1a⟩ : ∃ V1a, V1.alloc (.cells (rowOf zeros) 5) = V1a := ⟨_, rfl⟩
    have hog : V1a.heap[V1.heap.size]? = some (.cells (rowOf zeros) 5 (0, 0)) := by rw [← hV1a]; exact heap_alloc_new V1 _
    have hbz : BytesAt V1a V1.heap.size 128 zeros := by rw [← hV1a]; exact zeros_bytes V1
    have K1a : Kept [] V1 V1a := by rw [← hV1a]; exact Kept.of_alloc [] V1 _
    rw [hV1a] at hmk
    have hs1a : V1a.heap.size = V1.heap.size + 1 := by rw [← hV1a]; simp
    obtain ⟨V1b, hV1b⟩ : ∃ V1b, V1a.alloc (.cells #[.int .i64 n, bv V1.heap.size 128, .slice none 0 0, .bool false] 61) = V1b := ⟨_, rfl⟩
    have hnb : V1b.heap[V1a.heap.size]? = some (.cells #[.int .i64 n, bv V1.heap.size 128, .slice none 0 0, .bool false] 61 (0, 0)) := by rw [← hV1b]; exact heap_alloc_new V1a _
    have K1b : Kept [] V1a V1b := by rw [← hV1b]; exact Kept.of_alloc [] V1a _
    have ho1b : V1b.ownsRow W3.heap.size 61 4 v1 k (esCells (es.take k)) := by rw [← hV1b, ← hV1a]; exact (ho1.alloc _).alloc _
    obtain ⟨v2, V2, hap2, ho2, hg2⟩ := append_sc V1b W3.heap.size v1 k (esCells (es.take k)) ho1b (some ⟨V1a.heap.size, 0, none⟩) 1 1 [.int .i64 n, bv V1.heap.size 128, .slice none 0 0, .bool false] rfl (fun j u hu => ⟨_, rfl, by
      rw [Addr.add_mid, cell_of_row _ _ _ _ _ (0, 0) hnb]
      simpa using hu⟩) (by simp [Value.oneCell']) (by have := K1.size; have := K1a.size; have := K1b.size; omega) (by omega) (by simp)
    have K12 : Kept [] W3 V1b := (K1.trans K1a).trans K1b
    have K2 : Kept [] W3 V2 := K12.grown hg2 (fun q hq => .inr (ho1b.lt q hq).1)
    have hs2 := slice_from V2 a ln cap k hk
    obtain ⟨v3, V3, hap3, ho3, hg3'⟩ := append_sc V2 W3.heap.size v2 (k + 1) _ ho2 (sub a k cap) (ln - k) (cap - k) (esCells (es.drop k)) hlB (fun j u hu => by
      have hj := (List.getElem?_eq_some_iff.1 hu).1
      rw [hlB] at hj
      obtain ⟨g, hg, hc⟩ := hsrc (k * 4 + j) u (by rw [hcells, List.getElem?_append_right (by omega), hlA, Nat.add_sub_cancel_left]; exact hu)
      refine ⟨⟨g, k * 4, none⟩, ?_, ?_⟩
      · unfold sub
        rw [if_neg (by have := hva.2; omega), hg]
        simp [Addr.add_mid]
      · rw [Addr.add_mid]
        exact Kept.cell K2 hc (by simp)) (es_one _) (by have := K2.size; omega) (by omega) (fun h => by
      unfold sub at h
      split at h
      · have := hva.1 h; omega
      · cases ha : a with
        | none => have := hva.1 ha; omega
        | some x => rw [ha] at h; cases h)
    have K3 : Kept [] W3 V3 := K2.grown hg3' (fun q hq => .inr (ho2.lt q hq).1)
    obtain ⟨lm, hlm⟩ : ∃ lm, lm = k + 1 + (ln - k) := ⟨_, rfl⟩
    rw [← hlm] at ho3
    obtain ⟨g3, cap3, rfl⟩ : ∃ g3 cap3, v3 = .slice (some ⟨g3, 0, none⟩) lm cap3 := by
      rcases ho3.2 with ⟨_, h2⟩ | ⟨g, c, cur, hv, _⟩
      · omega
      · exact ⟨g, c, hv⟩
    obtain ⟨xs, hxs⟩ : ∃ xs, esCells (es.take k) ++ [.int .i64 n, bv V1.heap.size 128, .slice none 0 0, .bool false] ++ esCells (es.drop k) = xs := ⟨_, rfl⟩
    rw [hxs] at ho3
    have hB3 := (ho3.lt g3 rfl).1
    obtain ⟨X3, hX3⟩ : ∃ X3, V3.setCell ⟨xb, 1, none⟩ (.slice (some ⟨g3, 0, none⟩) lm cap3) = X3 := ⟨_, rfl⟩
    have KX : Kept [xb] V3 X3 := by rw [← hX3]; exact (Kept.refl _ V3).setCell (by simp) _
    have hg3 : g3 ∉ F ∧ g3 ≠ xb := ⟨fun hx => by have := hF g3 hx; omega, by omega⟩
    have hrow3 : X3.ownsRow 0 61 4 (.slice (some ⟨g3, 0, none⟩) lm cap3) lm xs := by
      have h00 : V3.ownsRow 0 61 4 (.slice (some ⟨g3, 0, none⟩) lm cap3) lm xs := by
        refine ⟨ho3.1, ?_⟩
        rcases ho3.2 with hh | ⟨g, c, cur, hv, _, r⟩
        · exact .inl hh
        · exact .inr ⟨g, c, cur, hv, Nat.zero_le _, r⟩
      refine row_of_block h00 (fun b hb => ?_)
      have : b = g3 := by cases hb; rfl
      subst this
      exact KX.block _ (ho3.lt _ rfl).2 (by simpa using hg3.2)
    have hownV : ∀ V, Kept [] W3 V → V.heap[xb]? = some (.cells #[.int .i64 (N : Int), .slice a ln cap, .int .i64 (done + 1), .int .i64 lf, .bool false] 50 (0, 0)) := fun V kV => (kV.block xb hxB (by simp)).trans r1.own
    have hown3 : X3.heap[xb]? = some (.cells #[.int .i64 (N : Int), .slice (some ⟨g3, 0, none⟩) lm cap3, .int .i64 (done + 1), .int .i64 lf, .bool false] 50 (0, 0)) := by
      rw [← hX3, heap_setCell_at _ (hownV V3 K3)]
      rfl
    have K03 : Kept [xb] w X3 := (k1.trans (K3.mono (by simp))).trans KX
    have hb3 : ∀ j, j < 128 → X3.cell? (ad.add j) = some (.int .u8 (l.getD j 0)) := fun j hj => Kept.cell K03 (hbc j hj).1 (by simpa using (hbc j hj).2.1)
    have cV2 : V2.cell? ⟨xb, 1, none⟩ = some (.slice a ln cap) := by simp [World.cell?, hownV V2 K2]
    have cV3 : V3.cell? ⟨xb, 1, none⟩ = some (.slice a ln cap) := by simp [World.cell?, hownV V3 K3]
    have fV3 : V3.frozen? ⟨xb, 1, none⟩ = false := by simp [World.frozen?, hownV V3 K3]
    have hogb : V1b.heap[V1.heap.size]? = some (.cells (rowOf zeros) 5 (0, 0)) := (K1b.block _ (by omega) (by simp)).trans hog
    have hog2 : V2.heap[V1.heap.size]? = some (.cells (rowOf zeros) 5 (0, 0)) := (hg2.block _ (by have := K1b.size; omega) (own_ne ho1b hogb).symm).trans hogb
    have hogV : V3.heap[V1.heap.size]? = some (.cells (rowOf zeros) 5 (0, 0)) := (hg3'.block _ (Array.getElem?_eq_some_iff.1 hog2).1 (own_ne ho2 hog2).symm).trans hog2
    have hogx : V1.heap.size ≠ xb := by have := K1.size; omega
    have hogX : X3.heap[V1.heap.size]? = some (.cells (rowOf zeros) 5 (0, 0)) := (KX.block _ (Array.getElem?_eq_some_iff.1 hogV).1 (by simpa using hogx)).trans hogV
    have hog3 : g3 ≠ V1.heap.size := fun e => own_ne hrow3 hogX (by rw [← e]; rfl)
    have hkl : k < lm := by omega
    have hs3 := K3.size
    have hlmA : ∀ gl cl, (es.take k ++ (⟨n, V1.heap.size, 128, gl, cl, zeros, l, true⟩ : Sc) :: es.drop k).length = lm := fun gl cl => by
      rw [List.length_append, List.length_cons, List.length_take, List.length_drop, hle, hlm, Nat.min_eq_left hk]
      omega
    have hwrA : ∀ gl cl, Wrote es n l (es.take k ++ ⟨n, V1.heap.size, 128, gl, cl, zeros, l, true⟩ :: es.drop k) := fun gl cl => ⟨k, p, .inr ⟨hno, _, _, _, _, rfl⟩⟩
    have hno' : k < ln → ∃ e, es[k]? = some e ∧ e.n ≠ n := fun hh => ⟨_, List.getElem?_eq_getElem (by omega), hno _ (List.getElem?_eq_getElem (by omega))⟩
    have hlm9 : lm ≤ 1000 := by omega
    clear hownV hno hsrc hcells hb hlm
    rw [hs1a] at hap2
    go_upto_region 8 with fail
    go_cut [52] from 34 to 51 (fun c wx => c = .bool true ∧ wx = W3)
    case first =>
      clear hap1 hap2 hap3 hs1 hs2 hmk hV1a hV1b hX3
      by_cases hkq : k = ln
      · have hkb : ((k : Int) == (ln : Int)) = true := by simp; omega
        as_aux_lemma =>
          go_wp2_with fail
          go_meet
          exact ⟨rfl, rfl⟩
      · obtain ⟨e, he, hnx⟩ := hno' (by omega)
        obtain ⟨g, cap', hv, s0, s1, s2, s3, fz, hgx⟩ := r1.sect hle he
        injection hv with q1 q2 q3
        subst q1 q3
        have hnb2 : (e.n != n) = true := by simpa using hnx
        have hkb : ((k : Int) == (ln : Int)) = false := by simp; omega
        have hkn : ¬ (k : Int) = (ln : Int) := by omega
        as_aux_lemma =>
          go_wp2_with fail
          go_meet
          exact ⟨rfl, rfl⟩
    case rest =>
      obtain ⟨rfl, hwc⟩ := hcut
      have hwc := hwc.symm
      subst hwc
      clear hno'
      go_wp2_with (first | (refine wpList_append_sc rfl _ _ rfl rfl rfl rfl hap1 ?_) | (refine wpList_append_sc rfl _ _ rfl rfl rfl rfl hap2 ?_) | (refine wpList_append_sc rfl _ _ rfl rfl rfl rfl hap3 ?_) | fail)
      have kd : Kept [] X3 X3.drew := (Kept.refl [] X3).drew
      obtain ⟨W4, hW4⟩ : ∃ W4, X3.drew.alloc (.cells #[] 5) = W4 := ⟨_, rfl⟩
      have k4 : Kept [] X3 W4 := by rw [← hW4]; exact kd.alloc _
      have he4 : BytesAt W4 X3.heap.size 0 [] := by rw [← hW4]; exact empty_bytes X3.drew
      obtain ⟨gl, cl, W5, hap, hbl, k5, hfresh, hcl⟩ := append_any2 W4 X3.heap.size 0 [] he4 (some ad) 128 bc l hsl.1 (by omega) (fun j hj => ⟨ad, rfl, Kept.cell k4 (hb3 j hj) (by simp)⟩) (by simp) hsl.2
      simp only [Nat.zero_add, List.nil_append] at hap hbl hcl
      have k35 : Kept [] X3 W5 := k4.trans k5
      have hgl : X3.heap.size ≤ gl := by
        have := k4.size
        omega
      have hown5 := (k35.block xb (Array.getElem?_eq_some_iff.1 hown3).1 (by simp)).trans hown3
      have hrow5 : W5.ownsRow 0 61 4 (.slice (some ⟨g3, 0, none⟩) lm cap3) lm xs := row_of_block hrow3 (fun b hb => k35.block b (hrow3.lt b hb).2 (by simp))
      have hgx : g3 ≠ xb := hg3.2
      have hSa : (fun W : World => W.cell? ⟨xb, 1, none⟩ = some (.slice (some ⟨g3, 0, none⟩) lm cap3) ∧ W.frozen? ⟨g3, k * 4 + 2, none⟩ = false) X3.drew := ⟨show X3.cell? ⟨xb, 1, none⟩ = _ by simp [World.cell?, hown3], hrow3.frozenAt _⟩
      have hSb : (fun W : World => W.cell? ⟨xb, 1, none⟩ = some (.slice (some ⟨g3, 0, none⟩) lm cap3) ∧ W.frozen? ⟨g3, k * 4 + 2, none⟩ = false) W4 := by
        have o4 := (k4.block xb (Array.getElem?_eq_some_iff.1 hown3).1 (by simp)).trans hown3
        have r4 : W4.ownsRow 0 61 4 (.slice (some ⟨g3, 0, none⟩) lm cap3) lm xs := row_of_block hrow3 (fun b hb => k4.block b (hrow3.lt b hb).2 (by simp))
        exact ⟨by simp [World.cell?, o4], r4.frozenAt _⟩
      have hSc : (fun W : World => W.cell? ⟨xb, 1, none⟩ = some (.slice (some ⟨g3, 0, none⟩) lm cap3) ∧ W.frozen? ⟨g3, k * 4 + 2, none⟩ = false) W5 := ⟨by simp [World.cell?, hown5], hrow5.frozenAt _⟩
      obtain ⟨W6, hW6⟩ : ∃ W6, W5.setCell ⟨g3, k * 4 + 2, none⟩ (bv gl cl) = W6 := ⟨_, rfl⟩
      have hrow6 := (hrow5.stored (k * 4 + 2) (bv gl cl)).1
      rw [hW6] at hrow6
      have hown6 : W6.heap[xb]? = some (.cells #[.int .i64 (N : Int), .slice (some ⟨g3, 0, none⟩) lm cap3, .int .i64 (done + 1), .int .i64 lf, .bool false] 50 (0, 0)) := by
        have kk : Kept [g3] W5 (W5.setCell ⟨g3, k * 4 + 2, none⟩ (bv gl cl)) := (Kept.refl _ W5).setCell (by simp) _
        rw [hW6] at kk
        exact (kk.block xb (Array.getElem?_eq_some_iff.1 hown5).1 (by simpa using hgx.symm)).trans hown5
      have hSe : (fun W : World => W.cell? ⟨xb, 1, none⟩ = some (.slice (some ⟨g3, 0, none⟩) lm cap3) ∧ W.frozen? ⟨g3, k * 4 + 2, none⟩ = false) W6 := ⟨by simp [World.cell?, hown6], hrow6.frozenAt _⟩
      have d1 : W6.cell? ⟨xb, 1, none⟩ = some (.slice (some ⟨g3, 0, none⟩) lm cap3) := hSe.1
      have d2 := hrow6.frozenAt (k * 4 + 3)
      have d3 : (W6.cell? ⟨g3, k * 4 + 3, none⟩).isSome = true := by
        rw [hrow6.cellAt _ (by omega), List.getElem?_eq_getElem (by rw [hrow6.1]; omega)]
        rfl
      obtain ⟨d4, d5⟩ := Option.isSome_iff_exists.1 d3
      have d6 : (W5.cell? ⟨g3, k * 4 + 2, none⟩).isSome = true := by
        rw [hrow5.cellAt _ (by omega), List.getElem?_eq_getElem (by rw [hrow5.1]; omega)]
        rfl
      obtain ⟨d7, d8⟩ := Option.isSome_iff_exists.1 d6
      have hvb : ∀ b, (Value.slice (some ⟨g3, 0, none⟩) lm cap3).ownBlock = some b → (Value.slice a ln cap).ownBlock = some b ∨ w.heap.size ≤ b := fun b h => .inr (by
        have : g3 = b := by cases h; rfl
        omega)
      have hes : esCells (es.take k ++ ⟨n, V1.heap.size, 128, gl, cl, zeros, l, true⟩ :: es.drop k) = (xs.set (k * 4 + 2) (bv gl cl)).set (k * 4 + 3) (.bool true) := by
        rw [← hxs, es_append, List.append_assoc, List.set_append_right _ _ (by omega), List.set_append_right _ _ (by omega), hlA, Nat.add_sub_cancel_left, Nat.add_sub_cancel_left]
        rfl
      have r3 := r1.kept K3 (by simp)
      have hfar : ∀ b, b < W3.heap.size → b ∉ F → b ≠ xb → Far F xb (.slice (some ⟨g3, 0, none⟩) lm cap3) b := fun b h1 h2 h3 => ⟨h2, h3, by
        show some g3 ≠ some b
        intro hh
        injection hh with hh
        omega⟩
      have hX35 := k35.size
      have hXs := (ho3.lt g3 rfl).2
      have hVX := KX.size
      have hfin := write_end (es' := es.take k ++ ⟨n, V1.heap.size, 128, gl, cl, zeros, l, true⟩ :: es.drop k) (F := F) hown5 hrow5 (hlmA gl cl) hes r1.xf hg3 (by omega) (fun x hx => by
        have hx' : x ∈ es ∨ x = ⟨n, V1.heap.size, 128, gl, cl, zeros, l, true⟩ := by
          rcases List.mem_append.1 hx with hx | hx
          · exact .inl (List.mem_of_mem_take hx)
          · rcases List.mem_cons.1 hx with hx | hx
            · exact .inr hx
            · exact .inl (List.mem_of_mem_drop hx)
        rcases hx' with hx' | rfl
        · obtain ⟨b1, o1, b2, o2, f1, f2⟩ := r3.bytes x hx'
          obtain ⟨b1', _, b2', _, _, _⟩ := r1.bytes x hx'
          exact ⟨(b1.kept KX (by simpa using f1.2.1)).kept k35 (by simp), o1, (b2.kept KX (by simpa using f2.2.1)).kept k35 (by simp), o2, hfar _ b1'.lt f1.1 f1.2.1, hfar _ b2'.lt f2.1 f2.2.1⟩
        · refine ⟨(bytes_row zeros_sec hogX).kept k35 (by simp), Nat.le_refl _, hbl, hcl, ⟨?_, hogx, ?_⟩, ?_, ?_, ?_⟩
          · intro hx
            have := hF V1.heap.size hx
            have := K1.size
            omega
          · show some g3 ≠ some V1.heap.size
            intro hh
            injection hh with hh
            exact hog3 hh
          · intro hx
            have := hF gl hx
            omega
          · show gl ≠ xb
            omega
          · show some g3 ≠ some gl
            intro hh
            injection hh with hh
            omega)
      have hwr : Wrote es n l (es.take k ++ ⟨n, V1.heap.size, 128, gl, cl, zeros, l, true⟩ :: es.drop k) := hwrA gl cl
      have hkk : Kept (xb :: vb (.slice a ln cap)) w (W6.setCell ⟨g3, k * 4 + 3, none⟩ (.bool true)) := by
        rw [← hW6]
        have K05 : Kept (xb :: vb (.slice a ln cap)) w W5 := (K03.mono (by simp)).trans (k35.mono (by simp))
        exact (K05.setCell_new (p := ⟨g3, k * 4 + 2, none⟩) (by show w.heap.size ≤ g3; omega) _).setCell_new (p := ⟨g3, k * 4 + 3, none⟩) (by show w.heap.size ≤ g3; omega) _
      rw [hW6] at hfin
      as_aux_lemma =>
        refine wp_region_held_drew (S := (fun W : World => W.cell? ⟨xb, 1, none⟩ = some (.slice (some ⟨g3, 0, none⟩) lm cap3) ∧ W.frozen? ⟨g3, k * 4 + 2, none⟩ = false)) (by kernel_rfl) (by first | exact hSa | exact hSb | exact hSc | exact hSe) ?_
        intro hHeld
        first | (refine wpAnyH_take (i := 0) (v := ?_) (by simp only [List.getElem?_toArray, List.getElem?_cons_zero, List.getElem?_cons_succ]; rfl) (by kernel_rfl) (by kernel_rfl) (by kernel_rfl) (by exact fun _ _ _ h => h) (Or.inl ⟨by rfl, ?_⟩) (by assumption) ?_; rotate_left; (focus (intro w hSw; (try dsimp only at hSw); go_simp; try with_reducible rfl)); simp only [Act.put, List.setIfInBounds_toArray, List.set_cons_zero, List.set_cons_succ, hW4, hW6]) | (refine wpAnyH_take (i := 0) (v := undef) (by simp only [List.getElem?_toArray, List.getElem?_cons_zero, List.getElem?_cons_succ]; rfl) (by kernel_rfl) (by kernel_rfl) (by kernel_rfl) (by exact fun _ _ _ h => h) (Or.inr ⟨by rfl, rfl⟩) (by assumption) ?_; simp only [Act.put, List.setIfInBounds_toArray, List.set_cons_zero, List.set_cons_succ, hW4, hW6]) | fail
        first | (refine wpAnyH_take (i := 1) (v := ?_) (by simp only [List.getElem?_toArray, List.getElem?_cons_zero, List.getElem?_cons_succ]; rfl) (by kernel_rfl) (by kernel_rfl) (by kernel_rfl) (by exact fun _ _ _ h => h) (Or.inl ⟨by rfl, ?_⟩) (by assumption) ?_; rotate_left; (focus (intro w hSw; (try dsimp only at hSw); go_simp; try with_reducible rfl)); simp only [Act.put, List.setIfInBounds_toArray, List.set_cons_zero, List.set_cons_succ, hW4, hW6]) | (refine wpAnyH_take (i := 1) (v := undef) (by simp only [List.getElem?_toArray, List.getElem?_cons_zero, List.getElem?_cons_succ]; rfl) (by kernel_rfl) (by kernel_rfl) (by kernel_rfl) (by exact fun _ _ _ h => h) (Or.inr ⟨by rfl, rfl⟩) (by assumption) ?_; simp only [Act.put, List.setIfInBounds_toArray, List.set_cons_zero, List.set_cons_succ, hW4, hW6]) | fail
        first | (refine wpAnyH_take (i := 2) (v := ?_) (by simp only [List.getElem?_toArray, List.getElem?_cons_zero, List.getElem?_cons_succ]; rfl) (by kernel_rfl) (by kernel_rfl) (by kernel_rfl) (by exact fun _ _ _ h => h) (Or.inl ⟨by rfl, ?_⟩) (by assumption) ?_; rotate_left; (focus (intro w hSw; (try dsimp only at hSw); go_simp; try with_reducible rfl)); simp only [Act.put, List.setIfInBounds_toArray, List.set_cons_zero, List.set_cons_succ, hW4, hW6]) | (refine wpAnyH_take (i := 2) (v := undef) (by simp only [List.getElem?_toArray, List.getElem?_cons_zero, List.getElem?_cons_succ]; rfl) (by kernel_rfl) (by kernel_rfl) (by kernel_rfl) (by exact fun _ _ _ h => h) (Or.inr ⟨by rfl, rfl⟩) (by assumption) ?_; simp only [Act.put, List.setIfInBounds_toArray, List.set_cons_zero, List.set_cons_succ, hW4, hW6]) | fail
        first | (refine wpAnyH_take (i := 3) (v := ?_) (by simp only [List.getElem?_toArray, List.getElem?_cons_zero, List.getElem?_cons_succ]; rfl) (by kernel_rfl) (by kernel_rfl) (by kernel_rfl) (by exact fun _ _ _ h => h) (Or.inl ⟨by rfl, ?_⟩) (by assumption) ?_; rotate_left; (focus (intro w hSw; (try dsimp only at hSw); go_simp; try with_reducible rfl)); simp only [Act.put, List.setIfInBounds_toArray, List.set_cons_zero, List.set_cons_succ, hW4, hW6]) | (refine wpAnyH_take (i := 3) (v := undef) (by simp only [List.getElem?_toArray, List.getElem?_cons_zero, List.getElem?_cons_succ]; rfl) (by kernel_rfl) (by kernel_rfl) (by kernel_rfl) (by exact fun _ _ _ h => h) (Or.inr ⟨by rfl, rfl⟩) (by assumption) ?_; simp only [Act.put, List.setIfInBounds_toArray, List.set_cons_zero, List.set_cons_succ, hW4, hW6]) | fail
        first | (refine wpAnyH_take (i := 4) (v := ?_) (by simp only [List.getElem?_toArray, List.getElem?_cons_zero, List.getElem?_cons_succ]; rfl) (by kernel_rfl) (by kernel_rfl) (by kernel_rfl) (by exact fun _ _ _ h => h) (Or.inl ⟨by rfl, ?_⟩) (by assumption) ?_; rotate_left; (focus (intro w hSw; (try dsimp only at hSw); go_simp; try with_reducible rfl)); simp only [Act.put, List.setIfInBounds_toArray, List.set_cons_zero, List.set_cons_succ, hW4, hW6]) | (refine wpAnyH_take (i := 4) (v := undef) (by simp only [List.getElem?_toArray, List.getElem?_cons_zero, List.getElem?_cons_succ]; rfl) (by kernel_rfl) (by kernel_rfl) (by kernel_rfl) (by exact fun _ _ _ h => h) (Or.inr ⟨by rfl, rfl⟩) (by assumption) ?_; simp only [Act.put, List.setIfInBounds_toArray, List.set_cons_zero, List.set_cons_succ, hW4, hW6]) | fail
        first | (refine wpAnyH_take (i := 6) (v := ?_) (by simp only [List.getElem?_toArray, List.getElem?_cons_zero, List.getElem?_cons_succ]; rfl) (by kernel_rfl) (by kernel_rfl) (by kernel_rfl) (by exact fun _ _ _ h => h) (Or.inl ⟨by rfl, ?_⟩) (by assumption) ?_; rotate_left; (focus (intro w hSw; (try dsimp only at hSw); go_simp; try with_reducible rfl)); simp only [Act.put, List.setIfInBounds_toArray, List.set_cons_zero, List.set_cons_succ, hW4, hW6]) | (refine wpAnyH_take (i := 6) (v := undef) (by simp only [List.getElem?_toArray, List.getElem?_cons_zero, List.getElem?_cons_succ]; rfl) (by kernel_rfl) (by kernel_rfl) (by kernel_rfl) (by exact fun _ _ _ h => h) (Or.inr ⟨by rfl, rfl⟩) (by assumption) ?_; simp only [Act.put, List.setIfInBounds_toArray, List.set_cons_zero, List.set_cons_succ, hW4, hW6]) | fail
        refine wpAnyH_ready (rs := [5]) (by kernel_rfl) (by simp) ?_; refine AllReadyH.cons (by simp only [List.getElem?_toArray, List.getElem?_cons_zero, List.getElem?_cons_succ]; rfl) (fun K hK => ?_) AllReadyH.nil; go_simp; refine hK.out _ _ (by first | exact hSa | exact hSb | exact hSc | exact hSe) ?_; clear hHeld hK; intro hHeld; (try simp only [Act.put, List.setIfInBounds_toArray, List.set_cons_zero, List.set_cons_succ, hW4, hW6])
        refine wpAnyH_ready (rs := [7]) (by kernel_rfl) (by simp) ?_; refine AllReadyH.cons (by simp only [List.getElem?_toArray, List.getElem?_cons_zero, List.getElem?_cons_succ]; rfl) (fun K hK => ?_) AllReadyH.nil; refine step_append rfl _ _ rfl rfl rfl rfl hap ?_; simp only [Act.put, List.setIfInBounds_toArray, List.set_cons_zero, List.set_cons_succ, hW4, hW6]; refine hK.out _ _ (by first | exact hSa | exact hSb | exact hSc | exact hSe) ?_; clear hHeld hK; intro hHeld; (try simp only [Act.put, List.setIfInBounds_toArray, List.set_cons_zero, List.set_cons_succ, hW4, hW6])
        first | (refine wpAnyH_take (i := 8) (v := ?_) (by simp only [List.getElem?_toArray, List.getElem?_cons_zero, List.getElem?_cons_succ]; rfl) (by kernel_rfl) (by kernel_rfl) (by kernel_rfl) (by exact fun _ _ _ h => h) (Or.inl ⟨by rfl, ?_⟩) (by assumption) ?_; rotate_left; (focus (intro w hSw; (try dsimp only at hSw); go_simp; try with_reducible rfl)); simp only [Act.put, List.setIfInBounds_toArray, List.set_cons_zero, List.set_cons_succ, hW4, hW6]) | (refine wpAnyH_take (i := 8) (v := undef) (by simp only [List.getElem?_toArray, List.getElem?_cons_zero, List.getElem?_cons_succ]; rfl) (by kernel_rfl) (by kernel_rfl) (by kernel_rfl) (by exact fun _ _ _ h => h) (Or.inr ⟨by rfl, rfl⟩) (by assumption) ?_; simp only [Act.put, List.setIfInBounds_toArray, List.set_cons_zero, List.set_cons_succ, hW4, hW6]) | fail
        first | (refine wpAnyH_take (i := 9) (v := ?_) (by simp only [List.getElem?_toArray, List.getElem?_cons_zero, List.getElem?_cons_succ]; rfl) (by kernel_rfl) (by kernel_rfl) (by kernel_rfl) (by exact fun _ _ _ h => h) (Or.inl ⟨by rfl, ?_⟩) (by assumption) ?_; rotate_left; (focus (intro w hSw; (try dsimp only at hSw); go_simp; try with_reducible rfl)); simp only [Act.put, List.setIfInBounds_toArray, List.set_cons_zero, List.set_cons_succ, hW4, hW6]) | (refine wpAnyH_take (i := 9) (v := undef) (by simp only [List.getElem?_toArray, List.getElem?_cons_zero, List.getElem?_cons_succ]; rfl) (by kernel_rfl) (by kernel_rfl) (by kernel_rfl) (by exact fun _ _ _ h => h) (Or.inr ⟨by rfl, rfl⟩) (by assumption) ?_; simp only [Act.put, List.setIfInBounds_toArray, List.set_cons_zero, List.set_cons_succ, hW4, hW6]) | fail
        refine wpAnyH_ready (rs := [10]) (by kernel_rfl) (by simp) ?_; refine AllReadyH.cons (by simp only [List.getElem?_toArray, List.getElem?_cons_zero, List.getElem?_cons_succ]; rfl) (fun K hK => ?_) AllReadyH.nil; go_simp; refine hK.out _ _ (by first | exact hSa | exact hSb | exact hSc | exact hSe) ?_; clear hHeld hK; intro hHeld; (try simp only [Act.put, List.setIfInBounds_toArray, List.set_cons_zero, List.set_cons_succ, hW4, hW6])
        refine wpAnyH_done (by kernel_rfl) ?_ _
        clear hSa hSb hSc hSe hHeld
        go_wp2_with fail
        go_ret
        exact ⟨rfl, _, _, hfin.1, hwr, hkk, hvb⟩
end
end Go.Proofs.Ytcnejanckolklaa
