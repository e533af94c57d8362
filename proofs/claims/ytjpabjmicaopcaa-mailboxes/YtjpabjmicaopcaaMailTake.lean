/-
  PACKAGE mail at the landed code: In, Take.
-/
import Derived.Test.YtjpabjmicaopcaaMailBox
import Derived.Test.YtjpabjmicaopcaaCopied
import Derived.Test.YtjpabjmicaopcaaMids
namespace Go.Proofs.Ytjpabjmicaopcaa
open Go.RowKit
set_option maxRecDepth 8000
set_option linter.unusedSimpArgs false
set_option linter.unusedVariables false

theorem rem_past (u : ByteArray) (b : Lab) (n : Int) : ∀ (l : List Msg) (k : Nat), n ≤ (k : Int) → remK u b n k l = l
  | [], _, _ => rfl
  | x :: r, k, h => by
    rw [remK]
    have h1 := rem_past u b n r (k + 1) (by omega)
    have h2 := rem_past u b n r k h
    split
    · rw [if_neg (by omega), h1]
    · rw [h2]
/-- Where the n-th of a box stands. -/
def idxK (u : ByteArray) (b : Lab) (n : Int) : Nat → List Msg → Option Nat
  | _, [] => none
  | k, m :: r => if inP u b m = true then (if (k : Int) + 1 = n then some 0 else (idxK u b n (k + 1) r).map (· + 1)) else (idxK u b n k r).map (· + 1)
theorem idx_spec (u : ByteArray) (b : Lab) (n : Int) : ∀ (l : List Msg) (k : Nat), match idxK u b n k l with
    | none => fndK u b n k l = none
    | some j => fndK u b n k l = l[j]? ∧ remK u b n k l = l.take j ++ l.drop (j + 1) ∧ j < l.length
  | [], k => rfl
  | x :: r, k => by
    rw [idxK, fndK, remK]
    have h1 := idx_spec u b n r (k + 1)
    have h2 := idx_spec u b n r k
    by_cases hp : inP u b x = true
    · rw [if_pos hp, if_pos hp, if_pos hp]
      by_cases hk : (k : Int) + 1 = n
      · rw [if_pos hk, if_pos hk, if_pos hk]
        exact ⟨rfl, by rw [rem_past u b n r (k + 1) (by omega)]; rfl, by simp⟩
      · rw [if_neg hk, if_neg hk, if_neg hk]
        cases ho : idxK u b n (k + 1) r with
        | none => rw [ho] at h1; exact h1
        | some j =>
          rw [ho] at h1
          refine ⟨h1.1, ?_, ?_⟩
          · show x :: remK u b n (k + 1) r = (x :: r).take (j + 1) ++ (x :: r).drop (j + 1 + 1)
            rw [h1.2.1]; rfl
          · show j + 1 < (x :: r).length
            rw [List.length_cons]; omega
    · rw [if_neg hp, if_neg hp, if_neg hp]
      cases ho : idxK u b n k r with
      | none => rw [ho] at h2; exact h2
      | some j =>
        rw [ho] at h2
        refine ⟨h2.1, ?_, ?_⟩
        · show x :: remK u b n k r = (x :: r).take (j + 1) ++ (x :: r).drop (j + 1 + 1)
          rw [h2.2.1]; rfl
        · show j + 1 < (x :: r).length
          rw [List.length_cons]; omega
theorem idx_step {u : ByteArray} {b : Lab} {n : Int} {l : List Msg} {i c : Nat} {x : Msg} (hx : l[i]? = some x) : (idxK u b n c (l.drop i)).map (· + i) = if inP u b x = true then (if (c : Int) + 1 = n then some i else (idxK u b n (c + 1) (l.drop (i + 1))).map (· + (i + 1))) else (idxK u b n c (l.drop (i + 1))).map (· + (i + 1)) := by
  have h1 := List.getElem?_eq_some_iff.1 hx
  rw [List.drop_eq_getElem_cons h1.1, h1.2, idxK]
  have e : ∀ o : Option Nat, (o.map (· + 1)).map (· + i) = o.map (· + (i + 1)) := fun o => by
    cases o with
    | none => rfl
    | some j => simp; omega
  split
  · split
    · simp
    · exact e _
  · exact e _
/-- What place answers. -/
def PlaceR : Option Nat → Int → Prop
  | none, r => r = -1
  | some i, r => r = (i : Int)
theorem box_pairM (w : World) (cs ds : List Value) (T U : TypeId) : BlkL w.heap.size cs ((w.alloc (.cells cs.toArray T)).alloc (.cells ds.toArray U)) ∧ BlkL (w.heap.size + 1) ds ((w.alloc (.cells cs.toArray T)).alloc (.cells ds.toArray U)) ∧ Below w.heap.size w ((w.alloc (.cells cs.toArray T)).alloc (.cells ds.toArray U)) := by
  have h1 := blkl_alloc w cs.toArray T
  have b1 := alloc_below w (.cells cs.toArray T)
  have h2 := blkl_alloc (w.alloc (.cells cs.toArray T)) ds.toArray U
  have b2 := alloc_below (w.alloc (.cells cs.toArray T)) (.cells ds.toArray U)
  rw [World.size_alloc] at h2
  exact ⟨stab_blk _ _ _ _ h1 b2, h2, Below.then b1 b2⟩
set_option maxRecDepth 8000 in
set_option maxHeartbeats 2000000 in
theorem liesin_any (w : World) (m : Msg) (u : ByteArray) (b : Lab) :
    Calls Try.prog 33 #[.agg m.cs.toArray, .string u, .agg (lab4 b).toArray] w fun e w' => e = .returned (.bool (inP u b m)) ∧ Below w.heap.size w w' := by
  have hundL := Try.underlying24
  have hszL : ∀ t : Lab, (Try.prog.info? 24).map (·.size) = some (lab4 t).length := fun t => by show _ = some 4; kernel_rfl
  obtain ⟨hm0, hb0, hB0⟩ := box_pairM w m.cs (lab4 b) 26 24
  have q5 := (hm0.1 5 (.string m.rc) rfl).1
  have hbx := cells_blk hm0 6 (ms_box m)
  have hbr := hb0.range
  have e1 := lab_eqlM m.box b
  obtain ⟨M, hM⟩ : ∃ M, m.cs = M := ⟨_, rfl⟩
  rw [hM] at q5 hbx hbr hB0 ⊢
  clear hM hm0 hb0
  unfold inP
  cases h1 : eqs m.rc u
  · have f0 : (m.rc.toList == u.toList) = false := h1
    go_enter Try.func33, Try.ntmps33
    go_upto_region 1 with fail
    generalize (w.alloc (.cells M.toArray 26)).alloc (.cells (lab4 b).toArray 24) = W0 at *
    (try simp only [World.size_alloc])
    go_wp2_with fail
    go_ret
    exact ⟨rfl, hB0⟩
  have f0 : (m.rc.toList == u.toList) = true := h1
  obtain ⟨c, hc⟩ : ∃ c, labEq m.box b = c := ⟨_, rfl⟩
  simp only [hc] at e1
  rw [hc]
  go_enter Try.func33, Try.ntmps33
  go_upto_region 1 with fail
  generalize (w.alloc (.cells M.toArray 26)).alloc (.cells (lab4 b).toArray 24) = W0 at *
  (try simp only [World.size_alloc])
  go_wp2_with (first | (refine wpList_load_atg (by rfl) _ rfl ⟨w.heap.size, 6, none⟩ rfl (lab4 m.box) hbx hundL rfl (hszL m.box) ?_) | (refine wpList_load_rowg (by rfl) _ rfl (w.heap.size + 1) rfl (lab4 b) hbr hundL rfl (hszL b) ?_) | fail)
  go_ret
  exact ⟨rfl, hB0⟩
set_option maxRecDepth 8000 in
set_option maxHeartbeats 4000000 in
theorem pin_any (a : Option Addr) (cap : Nat) (l : List Msg) (u : ByteArray) (b : Lab) (hl : l.length ≤ 100000) (w : World) (h : RowAt 11 Msg.cs w a l) :
    Calls Try.prog 21 #[.slice a l.length cap, .string u, .agg (lab4 b).toArray] w fun e w' => ∃ v, e = .returned v ∧ OwnR 26 11 Msg.cs w' w.heap.size v (inL l u b) ∧ Below w.heap.size w w' := by
  have hundL := Try.underlying24
  have hundM := Try.underlying26
  have hszL : ∀ t : Lab, (Try.prog.info? 24).map (·.size) = some (lab4 t).length := fun t => by show _ = some 4; kernel_rfl
  have hszM : (Try.prog.info? 26).map (·.size) = some 11 := by kernel_rfl
  have hb0 := blkl_alloc w (lab4 b).toArray 24
  have hB0 := alloc_below w (.cells (lab4 b).toArray 24)
  obtain ⟨n, hn⟩ : ∃ n, l.length = n := ⟨_, rfl⟩
  rw [hn] at hl ⊢
  replace hn : Aside (l.length = n) := hn
  have hfl : ∀ i, ((l.take i).filter (inP u b)).length ≤ n := fun i => Nat.le_trans (List.length_filter_le _ _) (by rw [List.length_take, hn.out]; omega)
  have hrow := h.below ms_len hB0
  go_enter Try.func21, Try.ntmps21
  go_upto_region 1 with fail
  generalize w.alloc (.cells (lab4 b).toArray 24) = W0 at *
  have hb1 : BlkL w.heap.size (lab4 b) W0 := hb0
  go_wp2_with fail
  go_loopw [7, 12] (fun t7 t12 wr => ∃ (i : Nat) (v : Value), i ≤ n ∧ t12 = .int .i64 (i : Int) ∧ v = t7 ∧ OwnR 26 11 Msg.cs wr W0.heap.size v ((l.take i).filter (inP u b)) ∧ Below W0.heap.size W0 wr) (fun _ t12 _ => n - (Go.RowKit.intOf t12).toNat)
  case atStart => exact ⟨0, _, by omega, rfl, rfl, by simpa using OwnR.nil _ _ _ _ _, Below.refl _ _⟩
  case round =>
  obtain ⟨i, v, hi, rfl, rfl, ho, hB⟩ := hrel
  by_cases hlt : i < n
  · obtain ⟨x, hx⟩ : ∃ x, l[i]? = some x := ⟨_, List.getElem?_eq_getElem (by rw [hn.out]; exact hlt)⟩
    obtain ⟨y, rfl, -⟩ := hrow i x hx
    have hw := (hrow.below ms_len hB).at ms_len hx
    have hft := in_next (u := u) (b := b) hx
    have hl2 := hfl i
    have i1 : (i : Int) < (n : Int) := by omega
    have kl := fun W => liesin_any W x u b
    obtain ⟨cs, hcs⟩ : ∃ cs, x.cs = cs := ⟨_, rfl⟩
    have hlen : cs.length = 11 := by rw [← hcs]; rfl
    have hone : ∀ v ∈ cs, v.oneCell' = true := by rw [← hcs]; exact ms_one x
    have hszc : (Try.prog.info? 26).map (·.size) = some cs.length := by rw [hlen]; exact hszM
    rw [hcs] at hw
    simp only [hcs] at kl
    obtain ⟨W2, hW2, hth2, hm2, hB2⟩ := put_new wr zM11 26 cs (by rw [hlen]; rfl) (by rw [hlen]; decide)
    have hB02 := Below.then hB hB2
    have hor2 := ho.below hB2
    have hbr2 := (stab_blk _ _ _ _ hb1 hB02).range
    have hmr2 := hm2.range
    clear ho hB
    go_upto_region 5 with (first | (refine wpList_load_at rfl _ rfl (y.add (i * 11)) rfl cs hw hundM rfl hszc ?_) | (refine wpList_store_row rfl _ _ rfl wr.heap.size rfl cs rfl hth2 hszc hone hW2 ?_) | fail)
    clear hth2 hW2 hB2 hw
    generalize wr.heap.size = gm at *
    go_wp2_with (first | (refine wpList_load_row rfl _ rfl gm rfl cs hmr2 hundM rfl hszc ?_) | (refine wpList_load_row rfl _ rfl w.heap.size rfl (lab4 b) hbr2 hundL rfl (hszL b) ?_) | fail)
    refine (kl W2).mono ?_
    rintro e W3 ⟨rfl, hB3⟩
    have hor := hor2.below hB3
    have hBr := Below.then hB02 hB3
    have hmr3 := (stab_blk _ _ _ _ hm2 hB3).range
    clear hor2 hB02 hmr2 hbr2 hm2 hB3 kl
    cases hin : inP u b x
    · rw [hin, if_neg (by decide), List.append_nil] at hft
      rw [← hft] at hor
      clear hft hin hmr3
      go_wp2_with fail
      exact ⟨⟨i + 1, v, by omega, by simp, rfl, hor, hBr⟩, by simp [Go.RowKit.intOf]; omega⟩
    · rw [hin, if_pos rfl] at hft
      obtain ⟨v2, W4, hap, ho2, hg2⟩ := OwnR.push ms_ok hor hBr.size x x.cs.toArray rfl 26 (by omega)
      have hb2 := hor.grew_below hBr.size hg2
      rw [← hft] at ho2
      rw [hcs] at hap
      clear hcs hft hx hor hg2 hin
      go_wp2_with (first | (refine wpList_load_row rfl _ rfl gm rfl cs hmr3 hundM rfl hszc ?_) | (refine wpList_build1 ms_ok (by decide) rfl _ rfl cs rfl hlen ?_) | (refine wpList_append rfl _ _ rfl rfl rfl rfl hap ?_) | fail)
      exact ⟨⟨i + 1, v2, by omega, by simp, rfl, ho2, hBr.trans hb2⟩, by simp [Go.RowKit.intOf]; omega⟩
  · obtain rfl : i = n := by omega
    rw [List.take_of_length_le (by rw [hn.out]; exact Nat.le_refl _)] at ho
    have hfin := Below.then hB0 hB
    have hle := hB0.size
    go_wp2_with fail
    go_ret
    exact ⟨_, rfl, ho.lower hle, hfin⟩
set_option maxRecDepth 8000 in
set_option maxHeartbeats 4000000 in
theorem place_any (a : Option Addr) (cap : Nat) (l : List Msg) (u : ByteArray) (b : Lab) (j : Int) (hl : l.length ≤ 100000) (w : World) (h : RowAt 11 Msg.cs w a l) :
    Calls Try.prog 34 #[.slice a l.length cap, .string u, .agg (lab4 b).toArray, .int .i64 j] w fun e w' => ∃ r : Int, e = .returned (.int .i64 r) ∧ PlaceR (idxK u b j 0 l) r ∧ Below w.heap.size w w' := by
  have hundL := Try.underlying24
  have hundM := Try.underlying26
  have hszL : ∀ t : Lab, (Try.prog.info? 24).map (·.size) = some (lab4 t).length := fun t => by show _ = some 4; kernel_rfl
  have hszM : (Try.prog.info? 26).map (·.size) = some 11 := by kernel_rfl
  have hb0 := blkl_alloc w (lab4 b).toArray 24
  have hB0 := alloc_below w (.cells (lab4 b).toArray 24)
  obtain ⟨n, hn⟩ : ∃ n, l.length = n := ⟨_, rfl⟩
  rw [hn] at hl ⊢
  replace hn : Aside (l.length = n) := hn
  obtain ⟨o, ho⟩ : ∃ o, idxK u b j 0 l = o := ⟨_, rfl⟩
  rw [ho]
  have ho0 : Aside (o = (idxK u b j 0 (l.drop 0)).map (· + 0)) := by
    show o = _
    rw [← ho, List.drop_zero]
    cases idxK u b j 0 l <;> rfl
  clear ho
  have hrow := h.below ms_len hB0
  go_enter Try.func34, Try.ntmps34
  go_upto_region 1 with fail
  generalize w.alloc (.cells (lab4 b).toArray 24) = W0 at *
  have hb1 : BlkL w.heap.size (lab4 b) W0 := hb0
  go_wp2_with fail
  go_loopw [9, 14] (fun t9 t14 wr => ∃ (i c : Nat), i ≤ n ∧ c ≤ i ∧ t14 = .int .i64 (i : Int) ∧ t9 = .int .i64 (c : Int) ∧ Aside (o = (idxK u b j c (l.drop i)).map (· + i)) ∧ Below W0.heap.size W0 wr) (fun _ t14 _ => n - (Go.RowKit.intOf t14).toNat)
  case atStart => exact ⟨0, 0, by omega, by omega, rfl, rfl, ho0, Below.refl _ _⟩
  case round =>
  clear ho0
  obtain ⟨i, c, hi, hci, rfl, rfl, hall, hB⟩ := hrel
  by_cases hlt : i < n
  · obtain ⟨x, hx⟩ : ∃ x, l[i]? = some x := ⟨_, List.getElem?_eq_getElem (by rw [hn.out]; exact hlt)⟩
    obtain ⟨y, rfl, -⟩ := hrow i x hx
    have hw := (hrow.below ms_len hB).at ms_len hx
    rw [idx_step hx] at hall
    have i1 : (i : Int) < (n : Int) := by omega
    have hwr : IntKind.i64.wrap ((c : Int) + 1) = (c : Int) + 1 := by rw [IntKind.wrap_i64]; omega
    have kl := fun W => liesin_any W x u b
    obtain ⟨cs, hcs⟩ : ∃ cs, x.cs = cs := ⟨_, rfl⟩
    have hlen : cs.length = 11 := by rw [← hcs]; rfl
    have hone : ∀ v ∈ cs, v.oneCell' = true := by rw [← hcs]; exact ms_one x
    have hszc : (Try.prog.info? 26).map (·.size) = some cs.length := by rw [hlen]; exact hszM
    rw [hcs] at hw
    simp only [hcs] at kl
    obtain ⟨W2, hW2, hth2, hm2, hB2⟩ := put_new wr zM11 26 cs (by rw [hlen]; rfl) (by rw [hlen]; decide)
    have hB02 := Below.then hB hB2
    have hbr2 := (stab_blk _ _ _ _ hb1 hB02).range
    have hmr2 := hm2.range
    clear hB hm2 hx hcs
    go_upto_region 5 with (first | (refine wpList_load_at rfl _ rfl (y.add (i * 11)) rfl cs hw hundM rfl hszc ?_) | (refine wpList_store_row rfl _ _ rfl wr.heap.size rfl cs rfl hth2 hszc hone hW2 ?_) | fail)
    clear hth2 hW2 hB2 hw
    generalize wr.heap.size = gm at *
    go_wp2_with (first | (refine wpList_load_row rfl _ rfl gm rfl cs hmr2 hundM rfl hszc ?_) | (refine wpList_load_row rfl _ rfl w.heap.size rfl (lab4 b) hbr2 hundL rfl (hszL b) ?_) | fail)
    refine (kl W2).mono ?_
    rintro e W3 ⟨rfl, hB3⟩
    have hBr := Below.then hB02 hB3
    clear hB02 hmr2 hbr2 hB3 kl
    cases hin : inP u b x
    · rw [hin, if_neg (by decide)] at hall
      clear hin
      go_wp2_with fail
      exact ⟨⟨i + 1, c, by omega, by omega, by simp, rfl, hall, hBr⟩, by simp [Go.RowKit.intOf]; omega⟩
    · rw [hin, if_pos rfl] at hall
      clear hin
      by_cases hcj : (c : Int) + 1 = j
      · rw [if_pos hcj] at hall
        have hfin := Below.then hB0 hBr
        have hpl : PlaceR o (i : Int) := by rw [hall.out]; exact rfl
        clear hall
        go_wp2_with fail
        go_ret
        exact ⟨_, rfl, hpl, hfin⟩
      · rw [if_neg hcj] at hall
        have f1 : ((c : Int) + 1 == j) = false := by simpa using hcj
        go_wp2_with fail
        exact ⟨⟨i + 1, c + 1, by omega, by omega, by simp, by simp, hall, hBr⟩, by simp [Go.RowKit.intOf]; omega⟩
  · have hpl : PlaceR o (-1) := by
      rw [hall.out, List.drop_eq_nil_of_le (by rw [hn.out]; omega)]
      exact rfl
    have hfin := Below.then hB0 hB
    have i1 : ¬ (i : Int) < (n : Int) := by omega
    clear hall
    go_wp2_with fail
    go_ret
    exact ⟨_, rfl, hpl, hfin⟩
/-! Rows copied into a row of the call's own. -/
theorem heapM_setCell_at {w : World} {b o : Nat} {c : Array Value} {t : TypeId} {fr : Nat × Nat} (v : Value) (h : w.heap[b]? = some (.cells c t fr)) : (w.setCell ⟨b, o, none⟩ v).heap[b]? = some (.cells (c.setIfInBounds o v) t fr) := by
  have hb := (Array.getElem?_eq_some_iff.1 h).1
  have he := (Array.getElem?_eq_some_iff.1 h).2
  simp only [World.setCell, Array.getElem?_modify]
  simp [hb, he]
theorem heapM_setCells {b : Nat} {t : TypeId} {fr : Nat × Nat} : ∀ (vs : List Value) (o : Nat) (w : World) (c : Array Value), w.heap[b]? = some (.cells c t fr) → (w.setCells b o vs).heap[b]? = some (.cells (setM c.toList o vs).toArray t fr)
  | [], o, w, c, h => by
    rw [setM]
    exact h
  | v :: r, o, w, c, h => by
    have h1 := heapM_setCells r (o + 1) _ _ (heapM_setCell_at (o := o) v h)
    rw [setM]
    rw [Array.toList_setIfInBounds] at h1
    exact h1
theorem setM_part : ∀ (Y X p : List Value), Y.length ≤ X.length → setM (p ++ X) p.length Y = p ++ (Y ++ X.drop Y.length)
  | [], X, p, h => rfl
  | y :: r, [], p, h => by simp at h
  | y :: r, x :: s, p, h => by
    rw [setM, List.set_append_right _ _ (Nat.le_refl _), Nat.sub_self, List.set_cons_zero]
    have := setM_part r s (p ++ [y]) (by simpa using h)
    simpa [List.append_assoc] using this
theorem copy_atM {α : Type} {e t : TypeId} {sz : Nat} {f : α → List Value} (hE : ElemOk e t sz f) (ty : TypeId) (W : World) (g o : Nat) (cur : List Value) (hh : W.heap[g]? = some (.cells cur.toArray e (0, 0))) (d a : Option Addr) (dLen dCap sCap q : Nat) (l : List α) (hq : l.length = q) (hrow : RowAt sz f W a l) (hd : 0 < q → d = some ⟨g, o, none⟩) (hle : q ≤ dLen) (hfit : o + q * sz ≤ cur.length) :
    (Builtin.copy_ #[t, t] ty #[.slice d dLen dCap, .slice a q sCap]).run Try.prog W = .ok (goInt q) (W.setCells g o (l.flatMap f)) := by
  obtain ⟨i, z, b, hi, hz, hs, hb, hzs, hbb⟩ := hE.info
  have hszm : (Try.prog.info? e).map (·.size) = some sz := by rw [hi]; simpa using hs
  have hmin : Nat.min q dLen = q := Nat.min_eq_left hle
  by_cases h0 : q = 0
  · subst h0
    have hl0 := List.eq_nil_of_length_eq_zero hq
    subst hl0
    exact run_copy_none W t t ty e sz d a dLen dCap 0 sCap hE.und hszm hmin
  · rw [hd (by omega)]
    obtain ⟨y, hy⟩ : ∃ y, a = some y := by
      obtain ⟨y, hy, _⟩ := hrow 0 (l[0]'(by omega)) (List.getElem?_eq_getElem (by omega))
      exact ⟨y, hy⟩
    subst hy
    have hfl : (l.flatMap f).length = q * sz := by rw [flat_length hE.len, hq]
    have hc := run_copy_cells_many (P := Try.prog) W t t ty e sz g o dLen dCap y q sCap (l.flatMap f) hE.und hszm (by rw [hmin]; exact hfl) (hrow.flat hE.len hE.pos) (fun k hk => by
      rw [World.cell?, hh]
      simp
      omega) (fun k hk => by simp [World.frozen?, hh]) (fun v hv => by
      obtain ⟨x, _, hx⟩ := List.mem_flatMap.1 hv
      exact hE.one x v hx)
    rw [hmin] at hc
    exact hc
/-- Where a part of a slice begins. -/
def subM (a : Option Addr) (l m : Nat) : Option Addr := if m = l then a else a.map (·.add (l * 11))
theorem infoM : ∃ i, Try.prog.info? 26 = some i ∧ i.size = 11 := by
  obtain ⟨i, z, b, hi, hz, hs, _⟩ := ms_ok.info
  exact ⟨i, hi, hs⟩
theorem slice_toM (a : Option Addr) (n cap c : Nat) (hc : c ≤ n) (hn : n ≤ cap) (w : World) :
    (Instr.slice 46 (.slice a n cap) none (some (.int .i64 (c : Int))) none).run Try.prog w = .ok (.slice a c cap) w := by
  obtain ⟨i, hi, hsz⟩ := infoM
  have h1 : c ≤ cap := by omega
  have ha : (if cap = 0 then a else Option.map (fun x => x.add 0) a) = a := by
    split
    · rfl
    · cases a <;> simp [Addr.add]
  simp [Instr.slice, run_underlying Try.underlying46, Instr.sliceBounds, Instr.sliceBound, asIntOf, sizeOf, typeInfo, hi, hsz, h1, ha]
theorem slice_fromM (a : Option Addr) (n cap c : Nat) (hc : c ≤ n) (w : World) :
    (Instr.slice 46 (.slice a n cap) (some (.int .i64 (c : Int))) none none).run Try.prog w = .ok (.slice (subM a c cap) (n - c) (cap - c)) w := by
  obtain ⟨i, hi, hsz⟩ := infoM
  have h1 : c ≤ n := hc
  simp [Instr.slice, run_underlying Try.underlying46, Instr.sliceBounds, Instr.sliceBound, asIntOf, sizeOf, typeInfo, hi, hsz, h1, subM]
theorem row_take {W : World} {a : Option Addr} {l : List Msg} (h : RowAt 11 Msg.cs W a l) (i : Nat) : RowAt 11 Msg.cs W a (l.take i) := fun j x hx => by
  rw [List.getElem?_take] at hx
  split at hx
  · exact h j x hx
  · cases hx
theorem row_subM {W : World} {a : Option Addr} {l : List Msg} {c cap : Nat} (h : RowAt 11 Msg.cs W a l) (hl : l.length ≤ cap) : RowAt 11 Msg.cs W (subM a c cap) (l.drop c) := fun j x hx => by
  rw [List.getElem?_drop] at hx
  have hj := (List.getElem?_eq_some_iff.1 hx).1
  obtain ⟨y, rfl, hy⟩ := h (c + j) x hx
  refine ⟨y.add (c * 11), by unfold subM; rw [if_neg (by omega)]; rfl, fun q hq => ?_⟩
  rw [Addr.add_add, ← hy q hq]
  congr 2
  omega
section
variable {ops : Array Oper} {o : Oper} {a : Act} {w : World} {Q : Exit → Act → World → Prop}
theorem step_copyM {dT sT : TypeId} {K : Act → World → Prop} {E : Prop} (hg : o.guard = none) (s x : Operand) (hop : o.op = Op.call { callee := Callee.builtin Builtin.copy, args := #[s, x], argTypes := #[dT, sT] }) {u v r : Value} {w' : World} (hs : a.eval s = u) (hx : a.eval x = v)
    (hrun : ∀ ty, (Builtin.copy_ #[dT, sT] ty #[u, v]).run Try.prog w = .ok r w') (hK : K (a.put o.dst r) w') :
    if Region.wanted o (yielded ops a.tmps) = true then Oper.wp Try.prog o a w K Q else E := by
  have hw : Region.wanted o (yielded ops a.tmps) = true := by simp [Region.wanted, hg]
  rw [if_pos hw]
  unfold Oper.wp
  simp [execOp, hop, resolve, invoke, builtin, hs, hx, hrun, Result.andThen]
  exact hK
end
/-- The first part, made and copied. -/
theorem take_made (l : List Msg) (i k : Nat) (hi : i ≤ k) (hk : l.length = k + 1) (hk2 : k ≤ 1000) (a : Option Addr) (cap : Nat) (W : World) (h : RowAt 11 Msg.cs W a l) :
    ∃ W2 W3 X, (Instr.makeSlice 46 (.int .i64 (k : Int)) (.int .i64 (k : Int))).run Try.prog W = .ok (.slice (some ⟨W.heap.size, 0, none⟩) k k) W2 ∧
      (∀ ty, (Builtin.copy_ #[46, 46] ty #[.slice (some ⟨W.heap.size, 0, none⟩) k k, .slice a i cap]).run Try.prog W2 = .ok (goInt i) W3) ∧
      W3.heap[W.heap.size]? = some (.cells ((l.take i).flatMap Msg.cs ++ X).toArray 26 (0, 0)) ∧ X.length = (k - i) * 11 ∧ Below W.heap.size W W3 := by
  obtain ⟨cur, hcs, hmk⟩ := make_some ms_ok W k hk2
  have hB := alloc_below W (.cells cur 26)
  have hnew := heap_alloc_new W (.cells cur 26)
  have hti : (l.take i).length = i := by rw [List.length_take]; omega
  have hfl : ((l.take i).flatMap Msg.cs).length = i * 11 := by rw [flat_length ms_len, hti]
  have hcl : cur.toList.length = k * 11 := by simpa using hcs
  have hc := fun ty => copy_atM ms_ok ty (W.alloc (.cells cur 26)) W.heap.size 0 cur.toList (by rw [hnew]) (some ⟨W.heap.size, 0, none⟩) a k k cap i (l.take i) hti (row_take (h.below ms_len hB) i) (fun _ => rfl) hi (by rw [hcl]; omega)
  have h2 := heapM_setCells ((l.take i).flatMap Msg.cs) 0 _ _ hnew
  have h3 := setM_part ((l.take i).flatMap Msg.cs) cur.toList [] (by rw [hfl, hcl]; omega)
  simp only [List.nil_append, List.length_nil] at h3
  rw [h3] at h2
  exact ⟨_, _, _, hmk, hc, h2, by rw [List.length_drop, hfl, hcl]; omega, Below.cells (Nat.le_refl _) _ 0 hB⟩
/-- The rest, copied behind it. -/
theorem take_rest (l : List Msg) (i k : Nat) (hi : i ≤ k) (hk : l.length = k + 1) (hk2 : k ≤ 1000) (a : Option Addr) (cap : Nat) (hcap : l.length ≤ cap) (Z : World) (g : Nat) (X : List Value) (hh : Z.heap[g]? = some (.cells ((l.take i).flatMap Msg.cs ++ X).toArray 26 (0, 0))) (hX : X.length = (k - i) * 11) (h : RowAt 11 Msg.cs Z a l) (base : Nat) (hb : base ≤ g) :
    ∃ W4, (∀ ty, (Builtin.copy_ #[46, 46] ty #[.slice (subM (some ⟨g, 0, none⟩) i k) (k - i) (k - i), .slice (subM a (i + 1) cap) (k - i) (cap - (i + 1))]).run Try.prog Z = .ok (goInt ((k - i : Nat) : Int)) W4) ∧
      OwnR 26 11 Msg.cs W4 base (.slice (some ⟨g, 0, none⟩) k k) (l.take i ++ l.drop (i + 1)) ∧ (∀ q, q ≠ g → W4.heap[q]? = Z.heap[q]?) ∧ ∀ B w, B ≤ g → Below B w Z → Below B w W4 := by
  have hti : (l.take i).length = i := by rw [List.length_take]; omega
  have htd : (l.drop (i + 1)).length = k - i := by rw [List.length_drop]; omega
  have hfl : ((l.take i).flatMap Msg.cs).length = i * 11 := by rw [flat_length ms_len, hti]
  have hfd : ((l.drop (i + 1)).flatMap Msg.cs).length = (k - i) * 11 := by rw [flat_length ms_len, htd]
  have hc := fun ty => copy_atM ms_ok ty Z g (i * 11) _ hh (subM (some ⟨g, 0, none⟩) i k) (subM a (i + 1) cap) (k - i) (k - i) (cap - (i + 1)) (k - i) (l.drop (i + 1)) htd (row_subM h hcap) (fun hq => by unfold subM; rw [if_neg (by omega)]; simp [add_at]) (Nat.le_refl _) (by rw [List.length_append, hfl, hX]; omega)
  have h2 := heapM_setCells ((l.drop (i + 1)).flatMap Msg.cs) (i * 11) _ _ hh
  have h3 := setM_part ((l.drop (i + 1)).flatMap Msg.cs) X ((l.take i).flatMap Msg.cs) (by rw [hfd, hX]; omega)
  rw [hfl] at h3
  have h5 : X.drop ((l.drop (i + 1)).flatMap Msg.cs).length = [] := List.drop_eq_nil_of_le (by rw [hfd, hX]; exact Nat.le_refl _)
  rw [List.toList_toArray, h3, h5, List.append_nil, ← List.flatMap_append] at h2
  refine ⟨_, hc, ?_, fun q hq => heap_setCells_other hq _ _ _, fun B w hB hw => Below.cells hB _ _ hw⟩
  have hla : (l.take i ++ l.drop (i + 1)).length = k := by rw [List.length_append, hti, htd]; omega
  have hfa : ((l.take i ++ l.drop (i + 1)).flatMap Msg.cs).length = k * 11 := by rw [flat_length ms_len, hla]
  refine ⟨by rw [hfa, hla], .inr ⟨g, k, _, by rw [hla], hb, h2, by rw [hla]; exact Nat.le_refl _, by simp only [maxLen]; omega, by simpa using hfa, ?_⟩⟩
  rw [List.take_of_length_le]
  rw [hla, ← hfa]
  exact Nat.le_refl _
set_option maxRecDepth 8000 in
set_option maxHeartbeats 8000000 in
theorem ptake_any (a : Option Addr) (cap : Nat) (l : List Msg) (u : ByteArray) (b : Lab) (j : Int) (hl : l.length ≤ 1000) (hcap : l.length ≤ cap) (w : World) (h : RowAt 11 Msg.cs w a l) :
    Calls Try.prog 23 #[.slice a l.length cap, .string u, .agg (lab4 b).toArray, .int .i64 j] w (TakeR u b j l w) := by
  have hundL := Try.underlying24
  have hundM := Try.underlying26
  have hszL : ∀ t : Lab, (Try.prog.info? 24).map (·.size) = some (lab4 t).length := fun t => by show _ = some 4; kernel_rfl
  have hszM : (Try.prog.info? 26).map (·.size) = some 11 := by kernel_rfl
  obtain ⟨Q, hQ⟩ : ∃ Q, TakeR u b j l w = Q := ⟨_, rfl⟩
  rw [hQ]
  replace hQ : Aside (TakeR u b j l w = Q) := hQ
  obtain ⟨hb0, hr0, hB0⟩ := box_pairM w (lab4 b) zeroM.cs 24 26
  have kp := fun W h => place_any a cap l u b j (by omega) W h
  have hspec := idx_spec u b j l 0
  obtain ⟨o, ho⟩ : ∃ o, idxK u b j 0 l = o := ⟨_, rfl⟩
  rw [ho] at hspec
  simp only [ho] at kp
  clear ho
  obtain ⟨n, hn⟩ : ∃ n, l.length = n := ⟨_, rfl⟩
  rw [hn] at hl hcap ⊢
  simp only [hn] at kp
  replace hn : Aside (l.length = n) := hn
  have hrow := h.below ms_len hB0
  go_enter Try.func23, Try.ntmps23
  go_upto_region 1 with fail
  have hW0 : (w.alloc (.cells (lab4 b).toArray 24)).alloc (.cells zeroM.cs.toArray 26) = (w.alloc (.cells (lab4 b).toArray 24)).alloc (.cells zM11 26) := rfl
  rw [hW0] at hb0 hr0 hB0 hrow
  clear hW0
  generalize (w.alloc (.cells (lab4 b).toArray 24)).alloc (.cells zM11 26) = W0 at *
  (try simp only [World.size_alloc])
  have hbr := hb0.range
  go_wp2_with (first | (refine wpList_load_row rfl _ rfl w.heap.size rfl (lab4 b) hbr hundL rfl (hszL b) ?_) | fail)
  refine (kp W0 hrow).mono ?_
  rintro e W1 ⟨r, rfl, hr, hB1⟩
  have hBa := Below.then hB0 hB1
  have hr1 := stab_blk _ _ _ _ hr0 hB1
  have hrow1 := hrow.below ms_len hB1
  clear kp hrow hr0 hb0 hbr hB0 hB1
  have hQo := hQ.out
  unfold TakeR at hQo
  cases o with
  | none =>
    obtain rfl : r = -1 := hr
    replace hspec : fndK u b j 0 l = none := hspec
    rw [hspec] at hQo
    replace hQo : Aside (_ = Q) := hQo
    obtain ⟨W5, hW5, hth5, hm5, hk5⟩ := mput_any hr1 (ds := zeroM.cs) rfl (by decide)
    have hfin := hk5 _ _ (Nat.le_succ _) hBa
    have hr5 := hm5.range
    clear hr1 hm5 hk5 hQ hspec
    go_wp2_with (first | (refine wpList_store_row rfl _ _ rfl (w.heap.size + 1) rfl zeroM.cs rfl hth5 hszM (ms_one zeroM) hW5 ?_) | fail)
    refine bodyPost_ret (v := .tuple #[.slice none 0 0, .agg zeroM.cs.toArray, .int .i64 2]) (results_rowM rfl _ _ (w.heap.size + 1) (.slice none 0 0) rfl rfl (.int .i64 2) rfl zeroM.cs hr5 hundM rfl hszM) rfl ?_
    rw [← hQo.out]
    exact ⟨hfin, rfl⟩
  | some i =>
    obtain rfl : r = (i : Int) := hr
    obtain ⟨hs1, hs2, hs3⟩ := hspec
    rw [hn.out] at hs3
    obtain ⟨x, hx⟩ : ∃ x, l[i]? = some x := ⟨_, List.getElem?_eq_getElem (by rw [hn.out]; exact hs3)⟩
    rw [hs1, hx] at hQo
    replace hQo : Aside (_ = Q) := hQo
    replace hs2 : Aside (remK u b j 0 l = _) := hs2
    obtain ⟨k, hk⟩ : ∃ k, n = k + 1 := ⟨n - 1, by omega⟩
    have hik : i ≤ k := by omega
    have hwk : IntKind.i64.wrap ((n : Int) - 1) = (k : Int) := by rw [IntKind.wrap_i64]; omega
    have hwi : IntKind.i64.wrap ((i : Int) + 1) = (i : Int) + 1 := by rw [IntKind.wrap_i64]; omega
    have i1 : ¬ (i : Int) < 0 := by omega
    have hk2 : k ≤ 1000 := by omega
    have hnk : n - (i + 1) = k - i := by omega
    replace hnk : Aside (n - (i + 1) = k - i) := hnk
    replace hk : Aside (n = k + 1) := hk
    obtain ⟨W2, W3, X, hmk, hcp1, hh3, hX, hB3⟩ := take_made l i k hik (by rw [hn.out]; exact hk.out) hk2 a cap W1 hrow1
    have hst := fun W => slice_toM a n cap i (by omega) hcap W
    obtain ⟨y, rfl, -⟩ := hrow1 i x hx
    have hg1 : w.heap.size + 1 < W1.heap.size := hr1.2
    have hr3 := stab_blk _ _ _ _ hr1 hB3
    have hrow3 := hrow1.below ms_len hB3
    have hBc := Below.then hBa hB3
    clear hr1 hrow1 hBa hB3 hs1
    go_upto_region 5 with fail
    go_upto_region 6 with fail
    clear hmk hcp1 hst
    generalize W1.heap.size = g at *
    obtain ⟨Z, hZ⟩ : ∃ Z, W3 = Z := ⟨_, rfl⟩
    rw [hZ] at hh3 hr3 hrow3 hBc ⊢
    clear hZ
    have hS0 : Below Z.heap.size Z Z.drew := (Below.refl _ _).drew
    have hr4 := stab_blk _ _ _ _ hr3 hS0
    have hrow4 := hrow3.below ms_len hS0
    have hBd := Below.then hBc hS0
    have hh4 : Z.drew.heap[g]? = some (.cells ((l.take i).flatMap Msg.cs ++ X).toArray 26 (0, 0)) := hh3
    clear hS0 hr3 hrow3 hBc hh3
    obtain ⟨W4, hcp2, hown, hoth, hbel⟩ := take_rest l i k hik (by rw [hn.out]; exact hk.out) hk2 (some y) cap (by rw [hn.out]; exact hcap) Z.drew g X hh4 hX hrow4 w.heap.size (by omega)
    have hsf1 := fun W => slice_fromM (some ⟨g, 0, none⟩) k k i hik W
    have hsf2 := fun W => slice_fromM (some y) n cap (i + 1) (by omega) W
    rw [hnk.out] at hsf2
    simp only [show ((i + 1 : Nat) : Int) = (i : Int) + 1 by omega] at hsf2
    obtain ⟨d1, hd1⟩ : ∃ d, subM (some ⟨g, 0, none⟩) i k = d := ⟨_, rfl⟩
    obtain ⟨d2, hd2⟩ : ∃ d, subM (some y) (i + 1) cap = d := ⟨_, rfl⟩
    obtain ⟨c2, hc2⟩ : ∃ c, cap - (i + 1) = c := ⟨_, rfl⟩
    obtain ⟨q, hq⟩ : ∃ q, k - i = q := ⟨_, rfl⟩
    rw [hd1, hd2, hc2, hq] at hcp2
    simp only [hd1, hq] at hsf1
    simp only [hd2, hc2, hq] at hsf2
    rw [← hs2.out] at hown
    have hBe := hbel w.heap.size w (by omega) hBd
    have hr5 : BlkL (w.heap.size + 1) zeroM.cs W4 := ⟨hr4.1.same (hoth _ (by omega)), Nat.lt_of_lt_of_le hr4.2 (hbel 0 Z.drew (Nat.zero_le _) (Below.refl 0 _)).size⟩
    have hrow5 : RowAt 11 Msg.cs W4 (some y) l := h.below ms_len hBe
    clear hd1 hd2 hc2 hq hX hh4 hoth hbel hr4 hrow4 hBd hk
    refine wp_region_held_drew (S := (fun _ => True)) (by kernel_rfl) (by trivial) ?_
    intro hHeld
    first | (refine wpAnyH_take (i := 0) (v := ?_) (by simp only [List.getElem?_toArray, List.getElem?_cons_zero, List.getElem?_cons_succ]; rfl) (by kernel_rfl) (by kernel_rfl) (by kernel_rfl) (by exact fun _ _ _ h => h) (Or.inl ⟨by rfl, ?_⟩) (by assumption) ?_; rotate_left; (focus (intro w hSw; (try dsimp only at hSw); go_simp; try with_reducible rfl)); simp only [Act.put, List.setIfInBounds_toArray, List.set_cons_zero, List.set_cons_succ]) | (refine wpAnyH_take (i := 0) (v := undef) (by simp only [List.getElem?_toArray, List.getElem?_cons_zero, List.getElem?_cons_succ]; rfl) (by kernel_rfl) (by kernel_rfl) (by kernel_rfl) (by exact fun _ _ _ h => h) (Or.inr ⟨by rfl, rfl⟩) (by assumption) ?_; simp only [Act.put, List.setIfInBounds_toArray, List.set_cons_zero, List.set_cons_succ]) | fail
    first | (refine wpAnyH_take (i := 1) (v := ?_) (by simp only [List.getElem?_toArray, List.getElem?_cons_zero, List.getElem?_cons_succ]; rfl) (by kernel_rfl) (by kernel_rfl) (by kernel_rfl) (by exact fun _ _ _ h => h) (Or.inl ⟨by rfl, ?_⟩) (by assumption) ?_; rotate_left; (focus (intro w hSw; (try dsimp only at hSw); go_simp; try with_reducible rfl)); simp only [Act.put, List.setIfInBounds_toArray, List.set_cons_zero, List.set_cons_succ]) | (refine wpAnyH_take (i := 1) (v := undef) (by simp only [List.getElem?_toArray, List.getElem?_cons_zero, List.getElem?_cons_succ]; rfl) (by kernel_rfl) (by kernel_rfl) (by kernel_rfl) (by exact fun _ _ _ h => h) (Or.inr ⟨by rfl, rfl⟩) (by assumption) ?_; simp only [Act.put, List.setIfInBounds_toArray, List.set_cons_zero, List.set_cons_succ]) | fail
    first | (refine wpAnyH_take (i := 2) (v := ?_) (by simp only [List.getElem?_toArray, List.getElem?_cons_zero, List.getElem?_cons_succ]; rfl) (by kernel_rfl) (by kernel_rfl) (by kernel_rfl) (by exact fun _ _ _ h => h) (Or.inl ⟨by rfl, ?_⟩) (by assumption) ?_; rotate_left; (focus (intro w hSw; (try dsimp only at hSw); go_simp; try with_reducible rfl)); simp only [Act.put, List.setIfInBounds_toArray, List.set_cons_zero, List.set_cons_succ]) | (refine wpAnyH_take (i := 2) (v := undef) (by simp only [List.getElem?_toArray, List.getElem?_cons_zero, List.getElem?_cons_succ]; rfl) (by kernel_rfl) (by kernel_rfl) (by kernel_rfl) (by exact fun _ _ _ h => h) (Or.inr ⟨by rfl, rfl⟩) (by assumption) ?_; simp only [Act.put, List.setIfInBounds_toArray, List.set_cons_zero, List.set_cons_succ]) | fail
    first | (refine wpAnyH_take (i := 3) (v := ?_) (by simp only [List.getElem?_toArray, List.getElem?_cons_zero, List.getElem?_cons_succ]; rfl) (by kernel_rfl) (by kernel_rfl) (by kernel_rfl) (by exact fun _ _ _ h => h) (Or.inl ⟨by rfl, ?_⟩) (by assumption) ?_; rotate_left; (focus (intro w hSw; (try dsimp only at hSw); go_simp; try with_reducible rfl)); simp only [Act.put, List.setIfInBounds_toArray, List.set_cons_zero, List.set_cons_succ]) | (refine wpAnyH_take (i := 3) (v := undef) (by simp only [List.getElem?_toArray, List.getElem?_cons_zero, List.getElem?_cons_succ]; rfl) (by kernel_rfl) (by kernel_rfl) (by kernel_rfl) (by exact fun _ _ _ h => h) (Or.inr ⟨by rfl, rfl⟩) (by assumption) ?_; simp only [Act.put, List.setIfInBounds_toArray, List.set_cons_zero, List.set_cons_succ]) | fail
    first | (refine wpAnyH_take (i := 4) (v := ?_) (by simp only [List.getElem?_toArray, List.getElem?_cons_zero, List.getElem?_cons_succ]; rfl) (by kernel_rfl) (by kernel_rfl) (by kernel_rfl) (by exact fun _ _ _ h => h) (Or.inl ⟨by rfl, ?_⟩) (by assumption) ?_; rotate_left; (focus (intro w hSw; (try dsimp only at hSw); go_simp; try with_reducible rfl)); simp only [Act.put, List.setIfInBounds_toArray, List.set_cons_zero, List.set_cons_succ]) | (refine wpAnyH_take (i := 4) (v := undef) (by simp only [List.getElem?_toArray, List.getElem?_cons_zero, List.getElem?_cons_succ]; rfl) (by kernel_rfl) (by kernel_rfl) (by kernel_rfl) (by exact fun _ _ _ h => h) (Or.inr ⟨by rfl, rfl⟩) (by assumption) ?_; simp only [Act.put, List.setIfInBounds_toArray, List.set_cons_zero, List.set_cons_succ]) | fail
    first | (refine wpAnyH_take (i := 5) (v := ?_) (by simp only [List.getElem?_toArray, List.getElem?_cons_zero, List.getElem?_cons_succ]; rfl) (by kernel_rfl) (by kernel_rfl) (by kernel_rfl) (by exact fun _ _ _ h => h) (Or.inl ⟨by rfl, ?_⟩) (by assumption) ?_; rotate_left; (focus (intro w hSw; (try dsimp only at hSw); go_simp; try with_reducible rfl)); simp only [Act.put, List.setIfInBounds_toArray, List.set_cons_zero, List.set_cons_succ]) | (refine wpAnyH_take (i := 5) (v := undef) (by simp only [List.getElem?_toArray, List.getElem?_cons_zero, List.getElem?_cons_succ]; rfl) (by kernel_rfl) (by kernel_rfl) (by kernel_rfl) (by exact fun _ _ _ h => h) (Or.inr ⟨by rfl, rfl⟩) (by assumption) ?_; simp only [Act.put, List.setIfInBounds_toArray, List.set_cons_zero, List.set_cons_succ]) | fail
    first | (refine wpAnyH_take (i := 6) (v := ?_) (by simp only [List.getElem?_toArray, List.getElem?_cons_zero, List.getElem?_cons_succ]; rfl) (by kernel_rfl) (by kernel_rfl) (by kernel_rfl) (by exact fun _ _ _ h => h) (Or.inl ⟨by rfl, ?_⟩) (by assumption) ?_; rotate_left; (focus (intro w hSw; (try dsimp only at hSw); go_simp; try with_reducible rfl)); simp only [Act.put, List.setIfInBounds_toArray, List.set_cons_zero, List.set_cons_succ]) | (refine wpAnyH_take (i := 6) (v := undef) (by simp only [List.getElem?_toArray, List.getElem?_cons_zero, List.getElem?_cons_succ]; rfl) (by kernel_rfl) (by kernel_rfl) (by kernel_rfl) (by exact fun _ _ _ h => h) (Or.inr ⟨by rfl, rfl⟩) (by assumption) ?_; simp only [Act.put, List.setIfInBounds_toArray, List.set_cons_zero, List.set_cons_succ]) | fail
    refine wpAnyH_ready (rs := [7]) (by kernel_rfl) (by simp) ?_; refine AllReadyH.cons (by simp only [List.getElem?_toArray, List.getElem?_cons_zero, List.getElem?_cons_succ]; rfl) (fun K hK => ?_) AllReadyH.nil; refine step_copyM rfl _ _ rfl rfl rfl hcp2 ?_; (try simp only [Act.put, List.setIfInBounds_toArray, List.set_cons_zero, List.set_cons_succ]); refine hK.out _ _ (by trivial) ?_; clear hHeld hK; intro hHeld; (try simp only [Act.put, List.setIfInBounds_toArray, List.set_cons_zero, List.set_cons_succ])
    refine wpAnyH_done (by kernel_rfl) ?_ _
    clear hHeld hcp2 hsf1 hsf2
    go_upto_region 7 with fail
    obtain ⟨U, hU⟩ : ∃ U, W4 = U := ⟨_, rfl⟩
    rw [hU] at hown hBe hr5 hrow5 ⊢
    clear hU
    have hS0 : Below U.heap.size U U.drew := (Below.refl _ _).drew
    have hr6 := stab_blk _ _ _ _ hr5 hS0
    have hBf := Below.then hBe hS0
    have hw6 := (h.below ms_len hBf).at ms_len hx
    have how6 := hown.below hS0
    clear hr5 hBe hown hS0 hrow5
    obtain ⟨cs, hcs⟩ : ∃ cs, x.cs = cs := ⟨_, rfl⟩
    have hlen : cs.length = 11 := by rw [← hcs]; rfl
    have hone : ∀ v ∈ cs, v.oneCell' = true := by rw [← hcs]; exact ms_one x
    have hszc : (Try.prog.info? 26).map (·.size) = some cs.length := by rw [hlen]; exact hszM
    rw [hcs] at hw6
    obtain ⟨V5, hV5, hth5, hm5, hk5⟩ := mput_any hr6 (ds := cs) (by rw [hlen]; rfl) (by rw [hlen]; decide)
    have hother : ∀ q, q ≠ w.heap.size + 1 → V5.heap[q]? = U.drew.heap[q]? := fun q hq => by rw [← hV5]; exact heap_setCells_other hq _ _ _
    have hfin := hk5 _ _ (Nat.le_succ _) hBf
    have ho5 := how6.keep (w' := V5) fun q hq => hother q (by simp [Value.ownBlock] at hq; omega)
    have hr7 := hm5.range
    have hS5 : CellsAt V5 (y.add (i * 11)) cs := by
      have := (h.below ms_len hfin).at ms_len hx
      rwa [hcs] at this
    clear hr6 hm5 hk5 hother hBf how6
    refine wp_region_held_drew (S := (fun W => CellsAt W (y.add (i * 11)) cs)) (by kernel_rfl) (by first | exact hS5 | exact hw6) ?_
    intro hHeld
    first | (refine wpAnyH_take (i := 0) (v := ?_) (by simp only [List.getElem?_toArray, List.getElem?_cons_zero, List.getElem?_cons_succ]; rfl) (by kernel_rfl) (by kernel_rfl) (by kernel_rfl) (by exact fun _ _ _ h => h) (Or.inl ⟨by rfl, ?_⟩) (by assumption) ?_; rotate_left; (focus (intro w hSw; (try dsimp only at hSw); go_simp; try with_reducible rfl)); simp only [Act.put, List.setIfInBounds_toArray, List.set_cons_zero, List.set_cons_succ]) | (refine wpAnyH_take (i := 0) (v := undef) (by simp only [List.getElem?_toArray, List.getElem?_cons_zero, List.getElem?_cons_succ]; rfl) (by kernel_rfl) (by kernel_rfl) (by kernel_rfl) (by exact fun _ _ _ h => h) (Or.inr ⟨by rfl, rfl⟩) (by assumption) ?_; simp only [Act.put, List.setIfInBounds_toArray, List.set_cons_zero, List.set_cons_succ]) | fail
    first | (refine wpAnyH_take (i := 1) (v := ?_) (by simp only [List.getElem?_toArray, List.getElem?_cons_zero, List.getElem?_cons_succ]; rfl) (by kernel_rfl) (by kernel_rfl) (by kernel_rfl) (by exact fun _ _ _ h => h) (Or.inl ⟨by rfl, ?_⟩) (by assumption) ?_; rotate_left; (focus (intro w hSw; (try dsimp only at hSw); go_simp; try with_reducible rfl)); simp only [Act.put, List.setIfInBounds_toArray, List.set_cons_zero, List.set_cons_succ]) | (refine wpAnyH_take (i := 1) (v := undef) (by simp only [List.getElem?_toArray, List.getElem?_cons_zero, List.getElem?_cons_succ]; rfl) (by kernel_rfl) (by kernel_rfl) (by kernel_rfl) (by exact fun _ _ _ h => h) (Or.inr ⟨by rfl, rfl⟩) (by assumption) ?_; simp only [Act.put, List.setIfInBounds_toArray, List.set_cons_zero, List.set_cons_succ]) | fail
    first | (refine wpAnyH_take (i := 2) (v := ?_) (by simp only [List.getElem?_toArray, List.getElem?_cons_zero, List.getElem?_cons_succ]; rfl) (by kernel_rfl) (by kernel_rfl) (by kernel_rfl) (by exact fun _ _ _ h => h) (Or.inl ⟨by rfl, ?_⟩) (by assumption) ?_; rotate_left; (focus (intro w hSw; (try dsimp only at hSw); go_simp; try with_reducible rfl)); simp only [Act.put, List.setIfInBounds_toArray, List.set_cons_zero, List.set_cons_succ]) | (refine wpAnyH_take (i := 2) (v := undef) (by simp only [List.getElem?_toArray, List.getElem?_cons_zero, List.getElem?_cons_succ]; rfl) (by kernel_rfl) (by kernel_rfl) (by kernel_rfl) (by exact fun _ _ _ h => h) (Or.inr ⟨by rfl, rfl⟩) (by assumption) ?_; simp only [Act.put, List.setIfInBounds_toArray, List.set_cons_zero, List.set_cons_succ]) | fail
    first | (refine wpAnyH_take (i := 3) (v := ?_) (by simp only [List.getElem?_toArray, List.getElem?_cons_zero, List.getElem?_cons_succ]; rfl) (by kernel_rfl) (by kernel_rfl) (by kernel_rfl) (by exact fun _ _ _ h => h) (Or.inl ⟨by rfl, ?_⟩) (by assumption) ?_; rotate_left; (focus (intro w hSw; (try dsimp only at hSw); go_simp; try with_reducible rfl)); simp only [Act.put, List.setIfInBounds_toArray, List.set_cons_zero, List.set_cons_succ]) | (refine wpAnyH_take (i := 3) (v := undef) (by simp only [List.getElem?_toArray, List.getElem?_cons_zero, List.getElem?_cons_succ]; rfl) (by kernel_rfl) (by kernel_rfl) (by kernel_rfl) (by exact fun _ _ _ h => h) (Or.inr ⟨by rfl, rfl⟩) (by assumption) ?_; simp only [Act.put, List.setIfInBounds_toArray, List.set_cons_zero, List.set_cons_succ]) | fail
    first | (refine wpAnyH_take (i := 4) (v := _) (by simp only [List.getElem?_toArray, List.getElem?_cons_zero, List.getElem?_cons_succ]; rfl) (by kernel_rfl) (by kernel_rfl) (by kernel_rfl) (by exact fun _ _ _ h => h) (yields_at (by rfl) _ rfl (y.add (i * 11)) rfl cs (fun _ q => q) hundM rfl hszc) (by assumption) ?_; simp only [Act.put, List.setIfInBounds_toArray, List.set_cons_zero, List.set_cons_succ]) | (refine wpAnyH_take (i := 4) (v := undef) (by simp only [List.getElem?_toArray, List.getElem?_cons_zero, List.getElem?_cons_succ]; rfl) (by kernel_rfl) (by kernel_rfl) (by kernel_rfl) (by exact fun _ _ _ h => h) (Or.inr ⟨by rfl, rfl⟩) (by assumption) ?_; simp only [Act.put, List.setIfInBounds_toArray, List.set_cons_zero, List.set_cons_succ]) | fail
    first | (refine wpAnyH_take (i := 5) (v := ?_) (by simp only [List.getElem?_toArray, List.getElem?_cons_zero, List.getElem?_cons_succ]; rfl) (by kernel_rfl) (by kernel_rfl) (by kernel_rfl) (by exact fun _ _ _ h => h) (Or.inl ⟨by rfl, ?_⟩) (by assumption) ?_; rotate_left; (focus (intro w hSw; (try dsimp only at hSw); go_simp; try with_reducible rfl)); simp only [Act.put, List.setIfInBounds_toArray, List.set_cons_zero, List.set_cons_succ]) | (refine wpAnyH_take (i := 5) (v := undef) (by simp only [List.getElem?_toArray, List.getElem?_cons_zero, List.getElem?_cons_succ]; rfl) (by kernel_rfl) (by kernel_rfl) (by kernel_rfl) (by exact fun _ _ _ h => h) (Or.inr ⟨by rfl, rfl⟩) (by assumption) ?_; simp only [Act.put, List.setIfInBounds_toArray, List.set_cons_zero, List.set_cons_succ]) | fail
    refine wpAnyH_ready (rs := [6]) (by kernel_rfl) (by simp) ?_; refine AllReadyH.cons (by simp only [List.getElem?_toArray, List.getElem?_cons_zero, List.getElem?_cons_succ]; rfl) (fun K hK => ?_) AllReadyH.nil; refine step_store_rowM rfl _ _ rfl (w.heap.size + 1) rfl cs rfl hth5 hszc hone hV5 ?_; (try simp only [Act.put, List.setIfInBounds_toArray, List.set_cons_zero, List.set_cons_succ]); refine hK.out _ _ (by first | exact hS5 | exact hw6) ?_; clear hHeld hK; intro hHeld; (try simp only [Act.put, List.setIfInBounds_toArray, List.set_cons_zero, List.set_cons_succ])
    first | (refine wpAnyH_take (i := 7) (v := ?_) (by simp only [List.getElem?_toArray, List.getElem?_cons_zero, List.getElem?_cons_succ]; rfl) (by kernel_rfl) (by kernel_rfl) (by kernel_rfl) (by exact fun _ _ _ h => h) (Or.inl ⟨by rfl, ?_⟩) (by assumption) ?_; rotate_left; (focus (intro w hSw; (try dsimp only at hSw); go_simp; try with_reducible rfl)); simp only [Act.put, List.setIfInBounds_toArray, List.set_cons_zero, List.set_cons_succ]) | (refine wpAnyH_take (i := 7) (v := undef) (by simp only [List.getElem?_toArray, List.getElem?_cons_zero, List.getElem?_cons_succ]; rfl) (by kernel_rfl) (by kernel_rfl) (by kernel_rfl) (by exact fun _ _ _ h => h) (Or.inr ⟨by rfl, rfl⟩) (by assumption) ?_; simp only [Act.put, List.setIfInBounds_toArray, List.set_cons_zero, List.set_cons_succ]) | fail
    refine wpAnyH_done (by kernel_rfl) ?_ _
    go_wp2_with fail
    refine bodyPost_ret (v := .tuple #[.slice (some ⟨g, 0, none⟩) k k, .agg cs.toArray, .int .i64 0]) (results_rowM rfl _ _ (w.heap.size + 1) (.slice (some ⟨g, 0, none⟩) k k) rfl rfl (.int .i64 0) rfl cs hr7 hundM rfl hszc) rfl ?_
    rw [← hQo.out]
    refine ⟨hfin, _, ?_, ho5⟩
    rw [hcs]
end Go.Proofs.Ytjpabjmicaopcaa
