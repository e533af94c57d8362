/-
  PACKAGE mail at the landed code: Send, Release; and what the laws know of it.
-/
import Derived.Test.YtjpabjmicaopcaaMailFnR
import Derived.Test.YtjpabjmicaopcaaMids
namespace Go.Proofs.Ytjpabjmicaopcaa
open Go.RowKit
set_option maxRecDepth 8000
set_option linter.unusedSimpArgs false
set_option linter.unusedVariables false

theorem okL_nl {l : Lab} (h : okL l = true) : ∃ n : NL, l = n.lab ∧ n.ok := by
  unfold okL inB at h
  simp only [Bool.and_eq_true, decide_eq_true_eq] at h
  obtain ⟨⟨⟨⟨h1, h2⟩, h3, h4⟩, h5, h6⟩, h7, h8⟩ := h
  refine ⟨⟨l.s.toNat, l.c.toNat, l.i.toNat, l.k.toNat⟩, ?_, ?_⟩
  · unfold NL.lab
    cases l
    simp only [Lab.mk.injEq]
    simp only at h1 h3 h5 h7
    omega
  · unfold NL.ok
    simp only
    omega
theorem chk_okL {l : Lab} (h : chkL l = 0) : okL l = true := by
  unfold chkL at h
  split at h
  · assumption
  · cases h
/-- Whether a message may be. -/
def mayE (m : Msg) : Int := if name m.fr = false then 1 else if name m.rc = false then 1 else if chkL m.lab ≠ 0 then chkL m.lab else if chkL m.box ≠ 0 then chkL m.box else if 40 < m.text.size then 5 else 0
theorem chk_one {l : Lab} (h : chkL l ≠ 0) : chkL l = 1 := by
  unfold chkL at h ⊢
  split
  · rename_i q
    rw [if_pos q] at h
    exact absurd rfl h
  · rfl
theorem send_may (l : List MRul) (m : Msg) : sendE l m = if mayE m ≠ 0 then (0, mayE m) else if ov m.box m.lab = true then (1, 0) else if (ruleF l m).isSome = false then (0, 19) else (2, 0) := by
  unfold sendE mayE
  by_cases h1 : name m.fr = false
  · rw [if_pos h1, if_pos h1]; rfl
  rw [if_neg h1, if_neg h1]
  by_cases h2 : name m.rc = false
  · rw [if_pos h2, if_pos h2]; rfl
  rw [if_neg h2, if_neg h2]
  by_cases h3 : chkL m.lab ≠ 0
  · rw [if_pos h3, if_pos h3, chk_one h3]; rfl
  rw [if_neg h3, if_neg h3]
  by_cases h4 : chkL m.box ≠ 0
  · rw [if_pos h4, if_pos h4, chk_one h4]; rfl
  rw [if_neg h4, if_neg h4]
  by_cases h5 : 40 < m.text.size
  · rw [if_pos h5, if_pos h5]; rfl
  rw [if_neg h5, if_neg h5, if_neg (show ¬ ((0 : Int) ≠ 0) by decide)]
  obtain ⟨A, hA, okA⟩ := okL_nl (chk_okL (Decidable.not_not.1 h3))
  obtain ⟨B, hB, okB⟩ := okL_nl (chk_okL (Decidable.not_not.1 h4))
  rw [hA, hB, rov_ov okB okA]
set_option maxRecDepth 8000 in
set_option maxHeartbeats 4000000 in
theorem mmay_any (m : Msg) (hs : m.fr.size ≤ 9223372036854775807 ∧ m.rc.size ≤ 9223372036854775807) (w : World) :
    Calls Try.prog 26 #[.agg m.cs.toArray] w fun e w' => e = .returned (.int .i64 (mayE m)) ∧ Below w.heap.size w w' := by
  have hundL := Try.underlying24
  have hszL : ∀ t : Lab, (Try.prog.info? 24).map (·.size) = some (lab4 t).length := fun t => by show _ = some 4; kernel_rfl
  have kn1 := fun W => name_any m.fr hs.1 W
  have kn2 := fun W => name_any m.rc hs.2 W
  have kc1 : ∀ W, Calls Try.prog 37 #[.agg (lab4 m.lab).toArray] W fun e w' => e = .returned (.int .i64 (chkL m.lab)) ∧ Below W.heap.size W w' := fun W => lcheck_any m.lab W
  have kc2 : ∀ W, Calls Try.prog 37 #[.agg (lab4 m.box).toArray] W fun e w' => e = .returned (.int .i64 (chkL m.box)) ∧ Below W.heap.size W w' := fun W => lcheck_any m.box W
  have hm0 := blkl_alloc w m.cs.toArray 26
  have hB0 := alloc_below w (.cells m.cs.toArray 26)
  obtain ⟨E, hE⟩ : ∃ E, mayE m = E := ⟨_, rfl⟩
  rw [hE]
  unfold mayE at hE
  have hlabF := cells_blk hm0 1 (ms_lab m)
  have hboxF := cells_blk hm0 6 (ms_box m)
  have hx0 : m.cs[0]? = some (.string m.fr) := rfl
  have hx5 : m.cs[5]? = some (.string m.rc) := rfl
  have hx10 : m.cs[10]? = some (.string m.text) := rfl
  obtain ⟨M, hM⟩ : ∃ M, m.cs = M := ⟨_, rfl⟩
  replace hm0 : BlkL w.heap.size M (w.alloc (.cells M.toArray 26)) := by rw [← hM]; exact hm0
  rw [hM] at hB0 hx0 hx5 hx10 hlabF hboxF ⊢
  clear hM
  replace hE : Aside (_ = E) := hE
  obtain ⟨b1, hb1⟩ : ∃ b, name m.fr = b := ⟨_, rfl⟩
  obtain ⟨b2, hb2⟩ : ∃ b, name m.rc = b := ⟨_, rfl⟩
  obtain ⟨c1, hc1⟩ : ∃ b, chkL m.lab = b := ⟨_, rfl⟩
  obtain ⟨c2, hc2⟩ : ∃ b, chkL m.box = b := ⟨_, rfl⟩
  simp only [hb1] at kn1
  simp only [hb2] at kn2
  simp only [hc1] at kc1
  simp only [hc2] at kc2
  rw [hb1, hb2, hc1, hc2] at hE
  have q0 := (hm0.1 0 _ hx0).1
  go_enter Try.func26, Try.ntmps26
  go_upto_region 1 with fail
  generalize w.alloc (.cells M.toArray 26) = W0 at *
  go_wp2_with fail
  refine (kn1 W0).mono ?_
  rintro e W1 ⟨rfl, hB1⟩
  replace hB0 := Below.then hB0 hB1
  replace hm0 := stab_blk _ _ _ _ hm0 hB1
  replace hlabF := CellsAt.below hlabF hB1
  replace hboxF := CellsAt.below hboxF hB1
  clear hB1 kn1 q0
  cases b1
  · rw [if_pos rfl] at hE
    go_wp2_with fail
    go_ret
    exact ⟨by rw [← hE.out]; rfl, hB0⟩
  rw [if_neg (by decide)] at hE
  have q5 := (hm0.1 5 _ hx5).1
  go_wp2_with fail
  refine (kn2 W1).mono ?_
  rintro e W2 ⟨rfl, hB2⟩
  replace hB0 := Below.then hB0 hB2
  replace hm0 := stab_blk _ _ _ _ hm0 hB2
  replace hlabF := CellsAt.below hlabF hB2
  replace hboxF := CellsAt.below hboxF hB2
  clear hB2 kn2 q5
  cases b2
  · rw [if_pos rfl] at hE
    go_wp2_with fail
    go_ret
    exact ⟨by rw [← hE.out]; rfl, hB0⟩
  rw [if_neg (by decide)] at hE
  go_wp2_with (first | (refine wpList_load_at rfl _ rfl ⟨w.heap.size, 1, none⟩ rfl (lab4 m.lab) hlabF hundL rfl (hszL m.lab) ?_) | fail)
  refine (kc1 W2).mono ?_
  rintro e W3 ⟨rfl, hB3⟩
  replace hB0 := Below.then hB0 hB3
  replace hm0 := stab_blk _ _ _ _ hm0 hB3
  replace hboxF := CellsAt.below hboxF hB3
  clear hB3 kc1 hlabF
  by_cases hc1z : c1 = 0
  case neg =>
    rw [if_pos hc1z] at hE
    have f1 : (c1 != 0) = true := by simpa using hc1z
    go_wp2_with fail
    go_ret
    exact ⟨by rw [← hE.out]; rfl, hB0⟩
  case pos =>
  subst hc1z
  rw [if_neg (by decide)] at hE
  go_wp2_with (first | (refine wpList_load_at rfl _ rfl ⟨w.heap.size, 6, none⟩ rfl (lab4 m.box) hboxF hundL rfl (hszL m.box) ?_) | fail)
  refine (kc2 W3).mono ?_
  rintro e W4 ⟨rfl, hB4⟩
  replace hB0 := Below.then hB0 hB4
  replace hm0 := stab_blk _ _ _ _ hm0 hB4
  clear hB4 kc2 hboxF
  by_cases hc2z : c2 = 0
  case neg =>
    rw [if_pos hc2z] at hE
    have f1 : (c2 != 0) = true := by simpa using hc2z
    go_wp2_with fail
    go_ret
    exact ⟨by rw [← hE.out]; rfl, hB0⟩
  case pos =>
  subst hc2z
  rw [if_neg (by decide)] at hE
  have q10 := (hm0.1 10 _ hx10).1
  by_cases hlong : 40 < m.text.size
  · rw [if_pos hlong] at hE
    have i1 : (40 : Int) < (m.text.size : Int) := by omega
    go_wp2_with fail
    go_ret
    exact ⟨by rw [← hE.out]; rfl, hB0⟩
  rw [if_neg hlong] at hE
  have i1 : ¬ (40 : Int) < (m.text.size : Int) := by omega
  go_wp2_with fail
  go_ret
  exact ⟨by rw [← hE.out]; rfl, hB0⟩
set_option maxRecDepth 8000 in
set_option maxHeartbeats 4000000 in
theorem psend_any (a : Option Addr) (cap : Nat) (l : List MRul) (m : Msg) (hl : l.length ≤ 1000000) (hs : m.fr.size ≤ 9223372036854775807 ∧ m.rc.size ≤ 9223372036854775807) (w : World) (h : RowAt 9 MRul.cs w a l) :
    Calls Try.prog 12 #[.slice a l.length cap, .agg m.cs.toArray] w fun e w' => e = .returned (.tuple #[.int .i64 (sendE l m).1, .int .i64 (sendE l m).2]) ∧ Below w.heap.size w w' := by
  have hundL := Try.underlying24
  have hundM := Try.underlying26
  have hszL : ∀ t : Lab, (Try.prog.info? 24).map (·.size) = some (lab4 t).length := fun t => by show _ = some 4; kernel_rfl
  have hsz9 : (Try.prog.info? 29).map (·.size) = some 9 := by kernel_rfl
  have hszM : (Try.prog.info? 26).map (·.size) = some m.cs.length := by kernel_rfl
  have km := fun W => mmay_any m hs W
  have kv : ∀ W, Calls Try.prog 27 #[.agg (lab4 m.box).toArray, .agg (lab4 m.lab).toArray] W fun e w' => e = .returned (.bool (ov m.box m.lab)) ∧ Below W.heap.size W w' := fun W => lover_any m.box m.lab W
  have kr := fun W h => prule_any a cap l m hl W h
  have hm0 := blkl_alloc w m.cs.toArray 26
  have hB0 := alloc_below w (.cells m.cs.toArray 26)
  obtain ⟨E, hE⟩ : ∃ E, sendE l m = E := ⟨_, rfl⟩
  rw [hE]
  rw [send_may] at hE
  have hlabF := cells_blk hm0 1 (ms_lab m)
  have hboxF := cells_blk hm0 6 (ms_box m)
  have hrow := h.below mr_len hB0
  obtain ⟨M, hM⟩ : ∃ M, m.cs = M := ⟨_, rfl⟩
  replace hm0 : BlkL w.heap.size M (w.alloc (.cells M.toArray 26)) := by rw [← hM]; exact hm0
  rw [hM] at hB0 hszM hrow hlabF hboxF ⊢
  simp only [hM] at kr km
  clear hM h
  obtain ⟨n, hn⟩ : ∃ n, l.length = n := ⟨_, rfl⟩
  rw [hn] at kr ⊢
  clear hn
  replace hE : Aside (_ = E) := hE
  obtain ⟨c1, hc1⟩ : ∃ b, mayE m = b := ⟨_, rfl⟩
  simp only [hc1] at km
  rw [hc1] at hE
  clear hc1
  go_enter Try.func12, Try.ntmps12
  go_upto_region 1 with fail
  generalize w.alloc (.cells M.toArray 26) = W0 at *
  have hr0 := hm0.range
  go_wp2_with (first | (refine wpList_load_row rfl _ rfl w.heap.size rfl M hr0 hundM rfl hszM ?_) | fail)
  refine (km W0).mono ?_
  rintro e W4 ⟨rfl, hB4⟩
  replace hB0 := Below.then hB0 hB4
  replace hm0 := stab_blk _ _ _ _ hm0 hB4
  replace hlabF := CellsAt.below hlabF hB4
  replace hboxF := CellsAt.below hboxF hB4
  replace hrow := hrow.below mr_len hB4
  clear hB4 km hr0
  by_cases hc1z : c1 = 0
  case neg =>
    rw [if_pos hc1z] at hE
    have f1 : (c1 != 0) = true := by simpa using hc1z
    go_wp2_with fail
    refine bodyPost_ret (v := .tuple #[.int .i64 0, .int .i64 c1]) (by simp [results, Try.results12, go_sem]) rfl ?_
    exact ⟨by rw [← hE.out], hB0⟩
  case pos =>
  subst hc1z
  rw [if_neg (by decide)] at hE
  go_wp2_with (first | (refine wpList_load_at rfl _ rfl ⟨w.heap.size, 6, none⟩ rfl (lab4 m.box) hboxF hundL rfl (hszL m.box) ?_) | (refine wpList_load_at rfl _ rfl ⟨w.heap.size, 1, none⟩ rfl (lab4 m.lab) hlabF hundL rfl (hszL m.lab) ?_) | fail)
  refine (kv W4).mono ?_
  rintro e W5 ⟨rfl, hB5⟩
  replace hB0 := Below.then hB0 hB5
  replace hm0 := stab_blk _ _ _ _ hm0 hB5
  replace hrow := hrow.below mr_len hB5
  clear hB5 kv hlabF hboxF
  cases hov : ov m.box m.lab
  case true =>
    rw [if_pos hov] at hE
    go_wp2_with fail
    refine bodyPost_ret (v := .tuple #[.int .i64 1, .int .i64 0]) (by simp [results, Try.results12, go_sem]) rfl ?_
    exact ⟨by rw [← hE.out], hB0⟩
  case false =>
  rw [if_neg (by rw [hov]; decide)] at hE
  have hr5 := hm0.range
  have kr5 := kr W5 hrow
  obtain ⟨o, ho⟩ : ∃ o, ruleF l m = o := ⟨_, rfl⟩
  rw [ho] at kr5 hE
  clear kr hm0 ho hrow
  go_wp2_with (first | (refine wpList_load_row rfl _ rfl w.heap.size rfl M hr5 hundM rfl hszM ?_) | fail)
  refine kr5.mono ?_
  rintro e W6 ⟨rfl, hB6⟩
  obtain ⟨xs, hxs⟩ : ∃ xs, foundRu o = xs := ⟨_, rfl⟩
  have hlx : xs.length = 9 := by rw [← hxs]; rfl
  have hxo : ∀ v ∈ xs, v.oneCell' = true := by rw [← hxs]; exact mr_one _
  rw [hxs]
  obtain ⟨W7, hW7, hth7, -, hB7⟩ := put_new W6 zR9 29 xs (by rw [hlx]; rfl) (by rw [hlx]; decide)
  have hszx : (Try.prog.info? 29).map (·.size) = some xs.length := by rw [hlx]; exact hsz9
  have hfin := Below.then hB0 (Below.then hB6 hB7)
  clear hxs hr5 kr5
  cases o with
  | none =>
    rw [if_pos (show (none : Option MRul).isSome = false from rfl)] at hE
    go_upto_region 7 with (first | (refine wpList_store_row rfl _ _ rfl W6.heap.size rfl xs rfl hth7 hszx hxo hW7 ?_) | fail)
    clear hth7 hW7
    go_wp2_with fail
    refine bodyPost_ret (v := .tuple #[.int .i64 0, .int .i64 19]) (by simp [results, Try.results12, go_sem]) rfl ?_
    exact ⟨by rw [← hE.out], hfin⟩
  | some x =>
    rw [if_neg (show ¬ (some x).isSome = false by simp)] at hE
    go_upto_region 7 with (first | (refine wpList_store_row rfl _ _ rfl W6.heap.size rfl xs rfl hth7 hszx hxo hW7 ?_) | fail)
    clear hth7 hW7
    go_wp2_with fail
    refine bodyPost_ret (v := .tuple #[.int .i64 2, .int .i64 0]) (by simp [results, Try.results12, go_sem]) rfl ?_
    exact ⟨by rw [← hE.out], hfin⟩
theorem occ_cut {t u : ByteArray} {j : Nat} : eqs (t.extract j (j + u.size)) u = true ↔ Lib.occAt t.data.toList u.data.toList j = true := by
  have e1 : (t.extract j (j + u.size)).data.toList = (t.data.toList.drop j).take u.size := by
    rw [ByteArray.data_extract, Array.toList_extract, List.extract_eq_take_drop]
    congr 1
    omega
  have e2 : u.size = u.data.toList.length := rfl
  unfold eqs Lib.occAt
  rw [toL, toL, e1, List.isPrefixOf_iff_prefix, List.prefix_iff_eq_take, beq_iff_eq, e2]
  exact ⟨fun h => h.symm, fun h => h.symm⟩
theorem stands_iff (t u : ByteArray) : ∀ n i, standsB t u n i = true ↔ ∃ j, i ≤ j ∧ j < i + n ∧ j + u.size ≤ t.size ∧ Lib.occAt t.data.toList u.data.toList j = true
  | 0, i => by
    rw [standsB]
    exact ⟨fun h => (by cases h), fun ⟨j, h1, h2, _⟩ => by omega⟩
  | n + 1, i => by
    rw [standsB]
    by_cases h : i + u.size ≤ t.size
    · rw [if_pos h, Bool.or_eq_true, occ_cut, stands_iff t u n (i + 1)]
      constructor
      · rintro (q | ⟨j, h1, h2, h3, h4⟩)
        · exact ⟨i, Nat.le_refl _, by omega, h, q⟩
        · exact ⟨j, by omega, by omega, h3, h4⟩
      · rintro ⟨j, h1, h2, h3, h4⟩
        by_cases e : j = i
        · subst e; exact .inl h4
        · exact .inr ⟨j, by omega, by omega, h3, h4⟩
    · rw [if_neg h]
      exact ⟨fun q => (by cases q), fun ⟨j, h1, h2, h3, h4⟩ => by omega⟩
theorem contains_stands (t u : ByteArray) : Lib.contains t.data.toList u.data.toList = standsB t u (t.size + 1) 0 := by
  have e2 : t.data.toList.length = t.size := rfl
  rw [Bool.eq_iff_iff, stands_iff]
  unfold Lib.contains
  rw [decide_eq_true_eq]
  rcases Lib.index_spec t.data.toList u.data.toList with ⟨h1, h2⟩ | ⟨i, h1, h2, h3, -⟩
  · rw [h1]
    constructor
    · intro q; omega
    · rintro ⟨j, _, _, h3, h4⟩
      rw [h2 j (by rw [e2]; omega)] at h4
      cases h4
  · constructor
    · intro _
      refine ⟨i, Nat.zero_le _, by rw [e2] at h2; omega, ?_, h3⟩
      have h5 := Lib.index_room t.data.toList u.data.toList (by rw [h1]; omega)
      rw [h1, e2] at h5
      have e3 : u.data.toList.length = u.size := rfl
      rw [e3] at h5
      omega
    · intro _; rw [h1]; omega
set_option maxRecDepth 8000 in
set_option maxHeartbeats 4000000 in
theorem prelease_any (a : Option Addr) (cap : Nat) (l : List MRul) (m : Msg) (hl : l.length ≤ 1000000) (w : World) (hV : ∀ x, ruleF l m = some x → m.text.size < 4294967281 ∧ LenV w) (h : RowAt 9 MRul.cs w a l) :
    Calls Try.prog 16 #[.slice a l.length cap, .agg m.cs.toArray] w fun e w' => e = .returned (.int .i64 (relE l m)) ∧ Below w.heap.size w w' := by
  have hundM := Try.underlying26
  have hsz9 : (Try.prog.info? 29).map (·.size) = some 9 := by kernel_rfl
  have hszM : (Try.prog.info? 26).map (·.size) = some m.cs.length := by kernel_rfl
  have kr := fun W h => prule_any a cap l m hl W h
  have hm0 := blkl_alloc w m.cs.toArray 26
  have hB0 := alloc_below w (.cells m.cs.toArray 26)
  obtain ⟨E, hE⟩ : ∃ E, relE l m = E := ⟨_, rfl⟩
  rw [hE]
  unfold relE at hE
  have hx10 : m.cs[10]? = some (.string m.text) := rfl
  have hrow := h.below mr_len hB0
  obtain ⟨M, hM⟩ : ∃ M, m.cs = M := ⟨_, rfl⟩
  replace hm0 : BlkL w.heap.size M (w.alloc (.cells M.toArray 26)) := by rw [← hM]; exact hm0
  rw [hM] at hB0 hx10 hszM hrow ⊢
  simp only [hM] at kr
  clear hM h
  obtain ⟨n, hn⟩ : ∃ n, l.length = n := ⟨_, rfl⟩
  rw [hn] at kr ⊢
  clear hn
  have hr0 := hm0.range
  have kr0 := kr _ hrow
  obtain ⟨o, ho⟩ : ∃ o, ruleF l m = o := ⟨_, rfl⟩
  rw [ho] at kr0 hE
  simp only [ho] at hV
  clear kr ho
  go_enter Try.func16, Try.ntmps16
  go_upto_region 1 with fail
  generalize w.alloc (.cells M.toArray 26) = W0 at *
  go_wp2_with (first | (refine wpList_load_row rfl _ rfl w.heap.size rfl M hr0 hundM rfl hszM ?_) | fail)
  refine kr0.mono ?_
  rintro e W6 ⟨rfl, hB6⟩
  have hx8 : (foundRu o)[8]? = some (.string (o.getD zeroR).word) := rfl
  obtain ⟨xs, hxs⟩ : ∃ xs, foundRu o = xs := ⟨_, rfl⟩
  have hlx : xs.length = 9 := by rw [← hxs]; rfl
  have hxo : ∀ v ∈ xs, v.oneCell' = true := by rw [← hxs]; exact mr_one _
  rw [hxs] at hx8 ⊢
  obtain ⟨W7, hW7, hth7, hb7, hB7⟩ := put_new W6 zR9 29 xs (by rw [hlx]; rfl) (by rw [hlx]; decide)
  have hszx : (Try.prog.info? 29).map (·.size) = some xs.length := by rw [hlx]; exact hsz9
  have hB67 := Below.then hB6 hB7
  have hfin := Below.then hB0 hB67
  have hm7 := stab_blk _ _ _ _ hm0 hB67
  have q10 := (hm7.1 10 _ hx10).1
  have q8 := (hb7.1 8 _ hx8).1
  clear hxs hr0 kr0 hm0 hB67 hB6 hB7 hrow hm7 hb7 hlx
  cases o with
  | none =>
    obtain rfl : (19 : Int) = E := hE
    go_upto_region 2 with (first | (refine wpList_store_row rfl _ _ rfl W6.heap.size rfl xs rfl hth7 hszx hxo hW7 ?_) | fail)
    clear hth7 hW7
    go_wp2_with fail
    go_ret
    exact ⟨rfl, hfin⟩
  | some x =>
    obtain ⟨hts, hL⟩ := hV x rfl
    have kcon := contains_any m.text x.word hts W7 (hL.below hfin)
    rw [contains_stands] at kcon
    replace q8 : W7.cell? ⟨W6.heap.size, 8, none⟩ = some (.string x.word) := q8
    replace hE : (if standsB m.text x.word (m.text.size + 1) 0 = true then (6 : Int) else 0) = E := hE
    obtain ⟨R0, hR0⟩ : ∃ R0, standsB m.text x.word (m.text.size + 1) 0 = R0 := ⟨_, rfl⟩
    rw [hR0] at hE kcon
    clear hR0
    go_upto_region 2 with (first | (refine wpList_store_row rfl _ _ rfl W6.heap.size rfl xs rfl hth7 hszx hxo hW7 ?_) | fail)
    clear hth7 hW7
    generalize W6.heap.size = gx at *
    go_wp2_with fail
    refine kcon.mono ?_
    rintro e W8 ⟨rfl, rfl⟩
    cases R0
    · rw [if_neg (by decide)] at hE
      subst hE
      go_wp2_with fail
      go_ret
      exact ⟨rfl, hfin⟩
    · rw [if_pos rfl] at hE
      subst hE
      go_wp2_with fail
      go_ret
      exact ⟨rfl, hfin⟩
theorem botM_any (w : World) : Calls Try.prog 20 #[] w fun e w' => e = .returned (.agg (lab4 bottomL).toArray) ∧ Below w.heap.size w w' := by
  go_enter Try.func20, Try.ntmps20
  go_wp2
  refine bodyPost_ret (v := bottomL.v) (by simp [results, Try.results20, go_sem, bottomL]) rfl ⟨rfl, (Below.refl _ _).alloc (Nat.le_refl _) _⟩
def knM (b : Lab) : Msg := ⟨⟨#[97]⟩, ⟨1, 0, 3, 255⟩, ⟨#[98]⟩, b, ⟨#[]⟩⟩
theorem kn_one : sendE [] (knM bottomL) = (0, 19) := by decide +kernel
theorem kn_two : sendE [] (knM ⟨1, 0, 3, 255⟩) = (1, 0) := by decide +kernel
theorem row_nilM (w : World) : RowAt 9 MRul.cs w none [] := fun j x h => by simp at h
set_option maxRecDepth 8000 in
set_option maxHeartbeats 4000000 in
theorem mknown_any (w : World) : Calls Try.prog 9 #[] w fun e w' => e = .returned (.bool true) ∧ Below w.heap.size w w' := by
  have hundL := Try.underlying24
  have hundM := Try.underlying26
  have hszL : ∀ t : Lab, (Try.prog.info? 24).map (·.size) = some (lab4 t).length := fun t => by show _ = some 4; kernel_rfl
  have hszM : (Try.prog.info? 26).map (·.size) = some 11 := by kernel_rfl
  have kb := botM_any w
  have k1 : ∀ W, Calls Try.prog 12 #[.slice none 0 0, .agg (knM bottomL).cs.toArray] W fun e w' => e = .returned (.tuple #[.int .i64 0, .int .i64 19]) ∧ Below W.heap.size W w' := fun W => by
    have h := psend_any none 0 [] (knM bottomL) (by decide) (by decide) W (row_nilM W)
    rw [kn_one] at h
    exact h
  have k2 : ∀ W, Calls Try.prog 12 #[.slice none 0 0, .agg (knM ⟨1, 0, 3, 255⟩).cs.toArray] W fun e w' => e = .returned (.tuple #[.int .i64 1, .int .i64 0]) ∧ Below W.heap.size W w' := fun W => by
    have h := psend_any none 0 [] (knM ⟨1, 0, 3, 255⟩) (by decide) (by decide) W (row_nilM W)
    rw [kn_two] at h
    exact h
  go_enter Try.func9, Try.ntmps9
  go_wp2_with fail
  refine kb.mono ?_
  rintro e W1 ⟨rfl, hB1⟩
  obtain ⟨M1, hM1⟩ : ∃ M1, (knM bottomL).cs = M1 := ⟨_, rfl⟩
  have hl1 : M1.length = 11 := by rw [← hM1]; rfl
  have ho1 : ∀ v ∈ M1, v.oneCell' = true := by rw [← hM1]; exact ms_one _
  have hz1 : (Try.prog.info? 26).map (·.size) = some M1.length := by rw [hl1]; exact hszM
  have hM1e : Aside (Value.agg #[.string ⟨#[97]⟩, .int .i64 1, .int .i64 0, .int .i64 3, .int .i64 255, .string ⟨#[98]⟩, .int .i64 0, .int .i64 0, .int .i64 3, .int .i64 255, .string ⟨#[]⟩] = .agg M1.toArray) := by show _ = _; rw [← hM1]; rfl
  obtain ⟨W2, hW2, hth2, hm2, hb2⟩ := put_new W1 zM11 26 M1 (by rw [hl1]; rfl) (by rw [hl1]; decide)
  have hB2 := Below.then hB1 hb2
  have hlab2 : CellsAt W2 ⟨W1.heap.size, 1, none⟩ (lab4 ⟨1, 0, 3, 255⟩) := by rw [← hM1] at hm2; exact cells_blk hm2 1 (ms_lab (knM bottomL))
  have hg : w.heap.size ≤ W1.heap.size := hB1.size
  rw [hM1] at k1
  go_upto_region 2 with (first | (refine wpList_store_row rfl _ _ rfl W1.heap.size rfl M1 hM1e.out hth2 hz1 ho1 hW2 ?_) | fail)
  clear hth2 hW2 hM1e ho1
  generalize W1.heap.size = g at *
  have hr2 := hm2.range
  go_wp2_with (first | (refine wpList_load_row rfl _ rfl g rfl M1 hr2 hundM rfl hz1 ?_) | fail)
  refine (k1 W2).mono ?_
  rintro e W3 ⟨rfl, hB3⟩
  have hm3 := stab_blk _ _ _ _ hm2 hB3
  have hlab3 := CellsAt.below hlab2 hB3
  have hBB3 := Below.then hB2 hB3
  obtain ⟨W4, hW4, hth4, hm4, hB4⟩ := put_mid (Z := w) hm3 6 (lab4 ⟨1, 0, 3, 255⟩) (by rw [hl1]; decide) (by rw [hl1]; decide) hBB3 hg
  obtain ⟨M2, hM2⟩ : ∃ M2, (knM ⟨1, 0, 3, 255⟩).cs = M2 := ⟨_, rfl⟩
  have hl2 : M2.length = 11 := by rw [← hM2]; rfl
  have hz2 : (Try.prog.info? 26).map (·.size) = some M2.length := by rw [hl2]; exact hszM
  have hm4' : BlkL g M2 W4 := by rw [← hM2]; rw [← hM1] at hm4; exact hm4
  have hr4 := hm4'.range
  have hlo := lab4_one ⟨1, 0, 3, 255⟩
  rw [hM2] at k2
  clear hM1 hM2 hm4 hm4' hm3 hlab2 hm2 hr2 k1 kb
  go_upto_region 4 with (first | (refine wpList_load_at rfl _ rfl ⟨g, 1, none⟩ rfl (lab4 ⟨1, 0, 3, 255⟩) hlab3 hundL rfl (hszL _) ?_) | (refine wpList_store_part rfl _ _ rfl g 6 rfl (lab4 ⟨1, 0, 3, 255⟩) rfl hth4 (hszL _) hlo hW4 ?_) | fail)
  clear hth4 hW4
  go_wp2_with (first | (refine wpList_load_row rfl _ rfl g rfl M2 hr4 hundM rfl hz2 ?_) | fail)
  refine (k2 W4).mono ?_
  rintro e W5 ⟨rfl, hB5⟩
  have hfin := Below.then hB4 hB5
  go_wp2_with fail
  go_ret
  exact ⟨rfl, hfin⟩
end Go.Proofs.Ytjpabjmicaopcaa
