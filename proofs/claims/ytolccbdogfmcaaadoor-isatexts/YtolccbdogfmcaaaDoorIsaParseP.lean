/-
  PACKAGE isa's Parse AS IT LANDED.
-/
import Derived.Test.YtolccbdogfmcaaaDoorIsaTextP
import Derived.Test.YtolccbdogfmcaaaDoorIsaCut
namespace Go.Proofs.YtolccbdogfmcaaaDoor
open Go.RowKit
set_option maxRecDepth 8000
set_option linter.unusedSimpArgs false
set_option linter.unusedVariables false

/-- The operation of a name, or none. -/
def OpIs (s : ByteArray) (r : Int) : Prop := (0 ≤ r ∧ r ≤ 22 ∧ opB r = s) ∨ (r = -1 ∧ ∀ k : Nat, k < 23 → opB (k : Int) ≠ s)
def nameCs : List Value := opNames.map fun z => Value.string ⟨z.toArray⟩
theorem nameCs_at (k : Nat) (hk : k < 23) : nameCs[k]? = some (.string (opB (k : Int))) := by
  have : ∀ k : Fin 23, nameCs[k.val]? = some (.string (opB (k.val : Int))) := by
    intro k
    unfold nameCs opB opL
    rw [List.getElem?_map, List.getD_eq_getElem?_getD, Int.toNat_natCast]
    have hl : k.val < opNames.length := k.isLt
    rw [List.getElem?_eq_getElem hl]
    rfl
  exact this ⟨k, hk⟩
theorem Vars.range {w : World} (h : Vars w) : w.rangeAt 0 0 nameCs := fun j v hv => by
  have hj : j < 23 := by
    have := (List.getElem?_eq_some_iff.1 hv).1
    exact this
  rw [nameCs_at j hj] at hv
  rw [Nat.zero_add, h.nms j hj, hv]
theorem index_run {cs : List Value} {k : Nat} {x : ByteArray} (hk : k < 23) (h : cs[k]? = some (.string x)) (w : World) : (Instr.index 40 (.agg cs.toArray) (.int .i64 (k : Int))).run Tryd.prog w = .ok (.string x) w := by
  have h1 := Tryd.underlying40
  have h2 := Tryd.underlying9
  have i1 : (k : Int) < 23 := by omega
  unfold Instr.index
  go_simp
set_option maxRecDepth 8000 in
set_option maxHeartbeats 2000000 in
theorem opOf_any (s : ByteArray) (w : World) (hV : Vars w) : Calls Tryd.prog 18 #[.string s] w fun e w' => ∃ r, e = .returned (.int .i64 r) ∧ OpIs s r ∧ w' = w := by
  have hund := Tryd.underlying40
  have hsz : (Tryd.prog.info? 40).map (·.size) = some 23 := by kernel_rfl
  have hr := hV.range
  have hat := nameCs_at
  have hlen : nameCs.length = 23 := rfl
  generalize nameCs = cs at *
  go_enter Tryd.func18, Tryd.ntmps18
  go_wp2_with (first | (refine wpList_load_row rfl _ rfl 0 rfl cs hr hund rfl (by rw [hlen]; exact hsz) ?_) | fail)
  go_loopw [6] (fun t6 wr => ∃ k : Nat, k ≤ 23 ∧ t6 = .int .i64 (k : Int) ∧ (∀ j : Nat, j < k → opB (j : Int) ≠ s) ∧ w = wr) (fun t6 _ => 23 - (Go.RowKit.intOf t6).toNat)
  case atStart => exact ⟨0, by omega, rfl, by intro j hj; omega, rfl⟩
  case round =>
  obtain ⟨k, hk, rfl, hne, hwr⟩ := hrel
  subst hwr
  by_cases hk2 : k < 23
  · have i1 : (k : Int) < 23 := by omega
    have hx := index_run hk2 (hat k hk2)
    obtain ⟨x, hxx⟩ : ∃ x, opB (k : Int) = x := ⟨_, rfl⟩
    rw [hxx] at hx
    by_cases he : x = s
    · have hq : (x.toList == s.toList) = true := by rw [he]; simp
      have hfin : OpIs s (k : Int) := .inl ⟨by omega, by omega, hxx.trans he⟩
      clear hxx he hat
      go_wp2_with fail
      go_ret
      exact ⟨_, rfl, hfin, rfl⟩
    · have hq : (x.toList == s.toList) = false := eqs_ne he
      have hne2 : ∀ j : Nat, j < k + 1 → opB (j : Int) ≠ s := fun j hj => by
        by_cases e : j = k
        · subst e
          rw [hxx]
          exact he
        · exact hne j (by omega)
      clear hxx he hat hne
      go_wp2_with fail
      exact ⟨⟨k + 1, by omega, by simp, hne2, trivial⟩, by simp [Go.RowKit.intOf]; omega⟩
  · have hk3 : k = 23 := by omega
    subst hk3
    have hfin : OpIs s (-1) := .inr ⟨rfl, hne⟩
    clear hne hat
    go_wp2_with fail
    go_ret
    exact ⟨_, rfl, hfin, rfl⟩
/-- What strconv.Atoi tells. -/
def AtR (p : ByteArray) (v : Int) (er : Value) : Prop := (er = .nilIface ∧ Lib.atoiAll p.data.toList = .ok v) ∨ (∃ t q, er = .iface t q ∧ ∀ v, Lib.atoiAll p.data.toList ≠ .ok v)
theorem atoi_any (p : ByteArray) (hp : p.size ≤ 1000) (w : World) (hV : Vars w) : Calls Tryd.prog 17 #[.string p] w fun e w' => ∃ v er, e = .returned (.tuple #[.int .i64 v, er]) ∧ AtR p v er ∧ Below w.heap.size w w' := by
  obtain ⟨e0, hv0, he0⟩ := hV.syn
  obtain ⟨e1, hv1, he1⟩ := hV.rng
  by_cases h : ∃ v, Lib.atoiAll p.data.toList = .ok v
  · obtain ⟨v, h⟩ := h
    exact (atoi_ok p (by omega) v h w).mono fun e w' ⟨he, hb⟩ => ⟨v, _, he, .inl ⟨rfl, h⟩, hb⟩
  · have h2 : ∀ v, Lib.atoiAll p.data.toList ≠ .ok v := fun v e => h ⟨v, e⟩
    exact (atoi_bad p (by omega) h2 w hv0 he0 hv1 he1).mono fun e w' ⟨v, t, q, he, hb⟩ => ⟨v, _, he, .inr ⟨t, q, rfl, h2⟩, hb⟩
theorem opB_inj {a b : Int} (ha : 0 ≤ a ∧ a ≤ 22) (hb : 0 ≤ b ∧ b ≤ 22) (h : opB a = opB b) : a = b := by
  obtain ⟨k1, q1⟩ := op_fin ha.1 ha.2
  obtain ⟨k2, q2⟩ := op_fin hb.1 hb.2
  subst q1 q2
  have := congrArg (fun b : ByteArray => b.data.toList) h
  rw [opL_inj k1 k2 (by simpa [opB] using this)]
theorem key_op {a : ByteArray} {r o : Int} (h : OpIs a r) (ho : 0 ≤ o ∧ o ≤ 22) (e : opB o = a) : r = o := by
  rcases h with ⟨h0, h1, h2⟩ | ⟨_, h2⟩
  · exact opB_inj ⟨h0, h1⟩ ho (h2.trans e.symm)
  · have := h2 o.toNat (by omega)
    rw [show ((o.toNat : Nat) : Int) = o by omega] at this
    exact absurd e this
theorem key_num {b : ByteArray} {n : Int} (h0 : -1000000000000 ≤ n) (h1 : n ≤ 1000000000000) (e : itoaB n = b) : Lib.atoiAll b.data.toList = .ok n := by
  subst e
  exact atoi_itoa h0 h1
theorem key_all {s a b c : ByteArray} {r p n : Int} {k : Ins} (h3 : partsI s = [a, b, c]) (hr : OpIs a r) (hp : Lib.atoiAll b.data.toList = .ok p) (hn : Lib.atoiAll c.data.toList = .ok n) (hk : IsT s k) : k = ⟨r, p, n⟩ := by
  obtain ⟨⟨a0, a1⟩, a2, a3, a4, a5⟩ := insE_zero.1 hk.1
  have e := (partsI_text hk).symm.trans h3
  simp only [List.cons.injEq, and_true] at e
  obtain ⟨e1, e2, e3⟩ := e
  have q1 := key_op hr ⟨a0, a1⟩ e1
  have q2 := key_num (by omega) (by omega) e2
  have q3 := key_num (by omega) (by omega) e3
  rw [hp] at q2
  rw [hn] at q3
  injection q2 with q2
  injection q3 with q3
  cases k
  simp_all
theorem key_bad {s a b c : ByteArray} {k : Ins} (h3 : partsI s = [a, b, c]) (hk : IsT s k) : (∃ v, Lib.atoiAll b.data.toList = .ok v) ∧ ∃ v, Lib.atoiAll c.data.toList = .ok v := by
  obtain ⟨⟨a0, a1⟩, a2, a3, a4, a5⟩ := insE_zero.1 hk.1
  have e := (partsI_text hk).symm.trans h3
  simp only [List.cons.injEq, and_true] at e
  exact ⟨⟨_, key_num (by omega) (by omega) e.2.1⟩, _, key_num (by omega) (by omega) e.2.2⟩
theorem key_empty {s a b c : ByteArray} (h3 : partsI s = [a, b, c]) : s ≠ ⟨#[]⟩ := by
  intro e
  subst e
  have : (partsI ⟨#[]⟩).length = 1 := rfl
  rw [h3] at this
  cases this
set_option maxRecDepth 8000 in
set_option maxHeartbeats 4000000 in
theorem iparse_any (s : ByteArray) (hs : s.size ≤ 1000) (w : World) (hV : Vars w) : Calls Tryd.prog 9 #[.string s] w fun e w' => ∃ j f, e = .returned (.tuple #[j.v, .int .i64 f]) ∧ ParR s j f ∧ Below w.heap.size w w' := by
  have hund := Tryd.underlying23
  have hsz : (Tryd.prog.info? 23).map (·.size) = some 3 := by kernel_rfl
  have hb0 := blkl_alloc w (ins3 ⟨0, 0, 0⟩).toArray 23
  have hB0 := alloc_below w (.cells (ins3 ⟨0, 0, 0⟩).toArray 23)
  replace hb0 : BlkL w.heap.size (ins3 ⟨0, 0, 0⟩) (w.alloc (.cells (ins3 ⟨0, 0, 0⟩).toArray 23)) := hb0
  go_enter Tryd.func9, Tryd.ntmps9
  go_upto_region 1 with fail
  generalize w.alloc (.cells #[.int .i64 0, .int .i64 0, .int .i64 0] 23) = W0 at *
  obtain ⟨m, hm⟩ := (hV.keep hB0).max
  have cS := splitN_any s blank 4 m W0 (by omega) hm (by decide) (by decide) (by decide)
  rw [show Lib.splitB blank 0 (min 4 (s.size + 1) - 1) s = partsI s from rfl] at cS
  go_wp2_with fail
  refine cS.mono ?_
  rintro e W1 ⟨rfl, hW1⟩
  have hb1 : BlkL w.heap.size (ins3 ⟨0, 0, 0⟩) W1 := by rw [hW1]; exact stab_blk _ _ _ _ hb0 (alloc_below _ _)
  have hB1 : Below w.heap.size w W1 := by rw [hW1]; exact Below.then hB0 (alloc_below _ _)
  obtain ⟨P, hP⟩ : ∃ P, partsI s = P := ⟨_, rfl⟩
  have hle := partI_le blank 0 (min 4 (s.size + 1) - 1) s
  replace hle : ∀ p, p ∈ partsI s → p.size ≤ s.size := hle
  rw [hP] at hW1 hle ⊢
  generalize min 4 (s.size + 1) = cp at *
  have hcell : ∀ (j : Nat) (x : ByteArray), P[j]? = some x → W1.cell? ⟨W0.heap.size, j, none⟩ = some (.string x) := fun j x hx => by
    have hj : j < P.length := (List.getElem?_eq_some_iff.1 hx).1
    rw [hW1, World.cell?_alloc_at _ _ _ _ rfl, Lib.cellsOf, List.getElem?_toArray, List.getElem?_append_left (by simpa using hj), List.getElem?_map, hx]
    rfl
  clear hW1
  obtain ⟨W2, hW2, hth2, hb2, hk2⟩ := put_box hb1 ⟨0, 0, 0⟩
  have hB2 := hk2 _ _ (Nat.le_refl _) hB1
  have hr2 := hb2.range
  clear hb2 hk2
  by_cases h3 : P.length = 3
  rotate_left
  · have hno : ∀ k, ¬ IsT s k := fun k hk => by
      rw [← hP, partsI_text hk] at h3
      exact h3 rfl
    have hq : (((P.length : Nat) : Int) != 3) = true := by
      have : ((P.length : Nat) : Int) ≠ 3 := by omega
      simpa using this
    clear h3 hb0 hb1 hB1 cS hm hcell
    go_wp2_with (first | (refine wpList_store_row rfl _ _ rfl w.heap.size rfl (ins3 ⟨0, 0, 0⟩) rfl hth2 hsz (ins3_one _) hW2 ?_) | fail)
    refine bodyPost_ret (v := .tuple #[.agg (ins3 ⟨0, 0, 0⟩).toArray, .int .i64 6]) (results_row2 rfl _ _ w.heap.size rfl (.int .i64 6) rfl (ins3 ⟨0, 0, 0⟩) hr2 hund rfl hsz) rfl ?_
    exact ⟨⟨0, 0, 0⟩, 6, rfl, .inr ⟨rfl, rfl, hno⟩, hB2⟩
  clear hth2 hB2 hr2 hW2
  obtain ⟨a, b, c, rfl⟩ : ∃ a b c, P = [a, b, c] := by
    match P, h3 with
    | [a, b, c], _ => exact ⟨a, b, c, rfl⟩
  have c0 := hcell 0 a rfl
  have c1 := hcell 1 b rfl
  have c2 := hcell 2 c rfl
  have la := hle a (by simp)
  have lb := hle b (by simp)
  have lc := hle c (by simp)
  have hg0 : w.heap.size < W0.heap.size := hb0.2
  have V1 := hV.keep hB1
  have kb := fun (W : World) (hV : Vars W) => atoi_any b (by omega) W hV
  have kc := fun (W : World) (hV : Vars W) => atoi_any c (by omega) W hV
  have ka := fun (W : World) (hV : Vars W) => opOf_any a W hV
  have kt := fun (W : World) (hV : Vars W) (i : Ins) (hi : insE i = 0) => itext_any i hi W hV
  have kn := fun (W : World) (i : Ins) (hi : insE i ≠ 0) => itext_none i hi W
  clear hcell hle la lb lc cS hm hb0 hB0 h3
  generalize W0.heap.size = g1 at *
  have g1lt : g1 < W1.heap.size := World.block_lt_of_cell? _ _ c0
  go_wp2_with fail
  refine (kb W1 V1).mono ?_
  rintro e W3 ⟨p, ep, rfl, hp, hB3⟩
  have d0 := (hB3.cell (World.block_lt_of_cell? _ _ c0)).trans c0
  have d2 := (hB3.cell (World.block_lt_of_cell? _ _ c2)).trans c2
  have hb3 := stab_blk _ _ _ _ hb1 hB3
  have V3 := V1.keep hB3
  replace hB3 := Below.then hB1 hB3
  clear c0 c1 c2 hb1 hB1 V1 kb
  go_wp2_with fail
  refine (kc W3 V3).mono ?_
  rintro e W4 ⟨n, en, rfl, hn, hB4⟩
  have f0 := (hB4.cell (World.block_lt_of_cell? _ _ d0)).trans d0
  have hb4 := stab_blk _ _ _ _ hb3 hB4
  have V4 := V3.keep hB4
  replace hB4 := Below.then hB3 hB4
  clear d0 d2 hb3 hB3 V3 kc
  go_wp2_with fail
  refine (ka W4 V4).mono ?_
  rintro e W4' ⟨r, rfl, hr, hq⟩
  replace hq := hq.symm
  subst hq
  clear ka f0
  have hi6 := blkl_alloc W4 (ins3 ⟨r, p, n⟩).toArray 23
  have hB6 := alloc_below W4 (.cells (ins3 ⟨r, p, n⟩).toArray 23)
  replace hi6 : BlkL W4.heap.size (ins3 ⟨r, p, n⟩) (W4.alloc (.cells (ins3 ⟨r, p, n⟩).toArray 23)) := hi6
  have hb6 := stab_blk _ _ _ _ hb4 hB6
  have V6 := V4.keep hB6
  replace hB6 := Below.then hB4 hB6
  clear hb4 hB4 V4 g1lt hV
  go_upto_region 7 with fail
  generalize W4.alloc (.cells #[.int .i64 r, .int .i64 p, .int .i64 n] 23) = W6 at *
  generalize W4.heap.size = g3 at *
  rcases hp with ⟨rfl, hp⟩ | ⟨t1, q1, rfl, hbad⟩
  rotate_left
  · have hno : ∀ k, ¬ IsT s k := fun k hk => (key_bad hP hk).1.elim fun v hv => hbad v hv
    clear hbad hn hr kt kn hi6 V6
    obtain ⟨W7, hW7, hth7, hb7, hk7⟩ := put_box hb6 ⟨0, 0, 0⟩
    have hB7 := hk7 _ _ (Nat.le_refl _) hB6
    have hr7 := hb7.range
    clear hk7 hb6
    go_wp2_with (first | (refine wpList_store_row rfl _ _ rfl w.heap.size rfl (ins3 ⟨0, 0, 0⟩) rfl hth7 hsz (ins3_one _) hW7 ?_) | fail)
    refine bodyPost_ret (v := .tuple #[.agg (ins3 ⟨0, 0, 0⟩).toArray, .int .i64 6]) (results_row2 rfl _ _ w.heap.size rfl (.int .i64 6) rfl (ins3 ⟨0, 0, 0⟩) hr7 hund rfl hsz) rfl ?_
    exact ⟨⟨0, 0, 0⟩, 6, rfl, .inr ⟨rfl, rfl, hno⟩, hB7⟩
  rcases hn with ⟨rfl, hn⟩ | ⟨t1, q1, rfl, hbad⟩
  rotate_left
  · have hno : ∀ k, ¬ IsT s k := fun k hk => (key_bad hP hk).2.elim fun v hv => hbad v hv
    clear hbad hp hr kt kn hi6 V6
    obtain ⟨W7, hW7, hth7, hb7, hk7⟩ := put_box hb6 ⟨0, 0, 0⟩
    have hB7 := hk7 _ _ (Nat.le_refl _) hB6
    have hr7 := hb7.range
    clear hk7 hb6
    go_wp2_with (first | (refine wpList_store_row rfl _ _ rfl w.heap.size rfl (ins3 ⟨0, 0, 0⟩) rfl hth7 hsz (ins3_one _) hW7 ?_) | fail)
    refine bodyPost_ret (v := .tuple #[.agg (ins3 ⟨0, 0, 0⟩).toArray, .int .i64 6]) (results_row2 rfl _ _ w.heap.size rfl (.int .i64 6) rfl (ins3 ⟨0, 0, 0⟩) hr7 hund rfl hsz) rfl ?_
    exact ⟨⟨0, 0, 0⟩, 6, rfl, .inr ⟨rfl, rfl, hno⟩, hB7⟩
  have hkey := fun (k : Ins) (hk : IsT s k) => key_all hP hr hp hn hk
  have hne := key_empty hP
  clear hp hn hr hP
  have hr6 := hi6.range
  by_cases hE : insE ⟨r, p, n⟩ = 0
  rotate_left
  · have hno : ∀ k, ¬ IsT s k := fun k hk => hE (by rw [← hkey k hk]; exact hk.1)
    have kz := kn W6 ⟨r, p, n⟩ hE
    have hq : ((⟨#[]⟩ : ByteArray).toList == s.toList) = false := eqs_ne (Ne.symm hne)
    have hq2 : (([] : List UInt8) == s.toList) = false := by rw [show ([] : List UInt8) = (⟨#[]⟩ : ByteArray).toList by simp [ByteArray.toList_eq]]; exact hq
    have hq3 : s.toList ≠ [] := fun e => by rw [e] at hq2; exact absurd hq2 (by decide)
    have hq4 : s.toList.isEmpty = false := by cases h : s.toList with | nil => exact absurd h hq3 | cons => rfl
    clear hkey kt kn hE hne V6
    go_wp2_with (first | (refine wpList_load_rowg (by rfl) _ rfl g3 rfl (ins3 ⟨r, p, n⟩) hr6 hund rfl hsz ?_) | fail)
    refine kz.mono ?_
    rintro e W6' ⟨rfl, hb⟩
    have hb6' := stab_blk _ _ _ _ hb6 hb
    replace hB6 := Below.then hB6 hb
    clear hb6 hb kz hr6 hi6
    have hb6 := hb6'
    clear hb6'
    obtain ⟨W7, hW7, hth7, hb7, hk7⟩ := put_box hb6 ⟨0, 0, 0⟩
    have hB7 := hk7 _ _ (Nat.le_refl _) hB6
    have hr7 := hb7.range
    clear hk7 hb6
    go_wp2_with (first | (refine wpList_store_row rfl _ _ rfl w.heap.size rfl (ins3 ⟨0, 0, 0⟩) rfl hth7 hsz (ins3_one _) hW7 ?_) | fail)
    refine bodyPost_ret (v := .tuple #[.agg (ins3 ⟨0, 0, 0⟩).toArray, .int .i64 6]) (results_row2 rfl _ _ w.heap.size rfl (.int .i64 6) rfl (ins3 ⟨0, 0, 0⟩) hr7 hund rfl hsz) rfl ?_
    exact ⟨⟨0, 0, 0⟩, 6, rfl, .inr ⟨rfl, rfl, hno⟩, hB7⟩
  have kz := kt W6 V6 ⟨r, p, n⟩ hE
  obtain ⟨x, hx⟩ : ∃ x, insB ⟨r, p, n⟩ = x := ⟨_, rfl⟩
  rw [hx] at kz
  by_cases he : x = s
  rotate_left
  · have hno : ∀ k, ¬ IsT s k := fun k hk => he (by rw [← hx, ← hkey k hk]; exact hk.2)
    have hq : (x.toList == s.toList) = false := eqs_ne he
    clear hkey kt kn hE hne V6 he hx
    go_wp2_with (first | (refine wpList_load_rowg (by rfl) _ rfl g3 rfl (ins3 ⟨r, p, n⟩) hr6 hund rfl hsz ?_) | fail)
    refine kz.mono ?_
    rintro e W6' ⟨rfl, hb⟩
    have hb6' := stab_blk _ _ _ _ hb6 hb
    replace hB6 := Below.then hB6 hb
    clear hb6 hb kz hr6 hi6
    have hb6 := hb6'
    clear hb6'
    obtain ⟨W7, hW7, hth7, hb7, hk7⟩ := put_box hb6 ⟨0, 0, 0⟩
    have hB7 := hk7 _ _ (Nat.le_refl _) hB6
    have hr7 := hb7.range
    clear hk7 hb6
    go_wp2_with (first | (refine wpList_store_row rfl _ _ rfl w.heap.size rfl (ins3 ⟨0, 0, 0⟩) rfl hth7 hsz (ins3_one _) hW7 ?_) | fail)
    refine bodyPost_ret (v := .tuple #[.agg (ins3 ⟨0, 0, 0⟩).toArray, .int .i64 6]) (results_row2 rfl _ _ w.heap.size rfl (.int .i64 6) rfl (ins3 ⟨0, 0, 0⟩) hr7 hund rfl hsz) rfl ?_
    exact ⟨⟨0, 0, 0⟩, 6, rfl, .inr ⟨rfl, rfl, hno⟩, hB7⟩
  have hfin : ParR s ⟨r, p, n⟩ 0 := .inl ⟨rfl, hE, hx.trans he⟩
  have hq : (x.toList == s.toList) = true := by rw [he]; simp
  clear hkey kt kn hE hne V6 he hx
  go_wp2_with (first | (refine wpList_load_rowg (by rfl) _ rfl g3 rfl (ins3 ⟨r, p, n⟩) hr6 hund rfl hsz ?_) | fail)
  refine kz.mono ?_
  rintro e W6' ⟨rfl, hb⟩
  have hb6' := stab_blk _ _ _ _ hb6 hb
  have hi7 := stab_blk _ _ _ _ hi6 hb
  replace hB6 := Below.then hB6 hb
  clear hb6 hb kz hr6 hi6
  have hr8 := hi7.range
  obtain ⟨W7, hW7, hth7, hb7, hk7⟩ := put_box hb6' ⟨r, p, n⟩
  have hB7 := hk7 _ _ (Nat.le_refl _) hB6
  have hr7 := hb7.range
  clear hk7 hb6'
  go_wp2_with (first | (refine wpList_load_row rfl _ rfl g3 rfl (ins3 ⟨r, p, n⟩) hr8 hund rfl hsz ?_) | (refine wpList_store_row rfl _ _ rfl w.heap.size rfl (ins3 ⟨r, p, n⟩) rfl hth7 hsz (ins3_one _) hW7 ?_) | fail)
  refine bodyPost_ret (v := .tuple #[.agg (ins3 ⟨r, p, n⟩).toArray, .int .i64 0]) (results_row2 rfl _ _ w.heap.size rfl (.int .i64 0) rfl (ins3 ⟨r, p, n⟩) hr7 hund rfl hsz) rfl ?_
  exact ⟨⟨r, p, n⟩, 0, rfl, hfin, hB7⟩
/-- What the laws of texts ask of package isa. -/
theorem isaOkT : IsaOk Vars where
  enc := fun i w _ => iencode_any i w
  text := fun i h w hV => itext_any i h w hV
  parse := fun s h w hV => iparse_any s h w hV
end Go.Proofs.YtolccbdogfmcaaaDoor
