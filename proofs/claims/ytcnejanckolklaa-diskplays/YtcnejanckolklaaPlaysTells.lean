/-
  WHAT THE DOCUMENT'S OWN DISK TELLS, AND WHAT THE DISK HAS, IN PLAIN WORDS: they stay the same, whatever is asked of both.
-/
import Derived.Test.YtcnejanckolklaaPlaysCrash
import Derived.Test.YtcnejanckolklaaStaysDisk
namespace Go.Proofs.Ytcnejanckolklaa
open Go.RowKit Go.Maps
set_option linter.unusedSimpArgs false
set_option linter.unusedVariables false

/-- Both tell the same. -/
structure Tells (N : Nat) (pl : Nat → List Int) (D : DataW (List Int)) (es : List Sc) : Prop where
  rise : es.Pairwise (fun a b => a.n < b.n)
  rng : ∀ e ∈ es, 0 ≤ e.n ∧ e.n < N
  on : ∀ e ∈ es, e.on = pl e.n.toNat
  last : ∀ e ∈ es, e.last = newestOf D pl e.n
  d : ∀ e ∈ es, e.d = Maps.has D (.int .i64 e.n)
  no : ∀ k : Int, 0 ≤ k → k < N → (∀ e ∈ es, e.n ≠ k) → Maps.has D (.int .i64 k) = false ∧ pl k.toNat = zeros

theorem has_empty (k : Int) : Maps.has (DataW.map ([] : List (Lit × DataW (List Int)))) (.int .i64 k) = false := rfl
theorem Tells.start (N : Nat) : Tells N (fun _ => zeros) (.map []) [] :=
  ⟨List.Pairwise.nil, by simp, by simp, by simp, by simp, fun k _ _ _ => ⟨has_empty k, rfl⟩⟩

section
variable {N : Nat} {pl : Nat → List Int} {D : DataW (List Int)} {es es' : List Sc}

theorem Tells.found (t : Tells N pl D es) {e : Sc} (he : e ∈ es) : toldBy es e.n = e.last := by
  obtain ⟨k, hk, rfl⟩ := List.mem_iff_getElem.1 he
  have : es.find? (fun x => x.n == es[k].n) = some es[k] := by
    rw [List.find?_eq_some_iff_getElem]
    refine ⟨by simp, k, hk, rfl, fun j hj => ?_⟩
    have := List.pairwise_iff_getElem.1 t.rise j k (by omega) hk hj
    simp; omega
  simp [toldBy, this]
theorem Tells.read (t : Tells N pl D es) {k : Int} (h0 : 0 ≤ k) (h1 : k < N) : toldBy es k = newestOf D pl k := by
  by_cases h : ∃ e ∈ es, e.n = k
  · obtain ⟨e, he, rfl⟩ := h
    rw [t.found he, t.last e he]
  · have hno : ∀ e ∈ es, e.n ≠ k := fun e he hk => h ⟨e, he, hk⟩
    obtain ⟨a, b⟩ := t.no k h0 h1 hno
    have : es.find? (fun x => x.n == k) = none := by
      rw [List.find?_eq_none]
      intro e he
      simpa using hno e he
    simp [toldBy, this, newestOf, a, b]

theorem Tells.flush (t : Tells N pl D es) : Tells N (fun j : Nat => newestOf D pl j) (.map []) (es.map flOf) := by
  refine ⟨?_, ?_, ?_, ?_, ?_, ?_⟩
  · rw [List.pairwise_map]; exact t.rise
  · intro e he
    obtain ⟨x, hx, rfl⟩ := List.mem_map.1 he
    exact t.rng x hx
  · intro e he
    obtain ⟨x, hx, rfl⟩ := List.mem_map.1 he
    have hr := t.rng x hx
    show x.last = newestOf D pl (x.n.toNat : Int)
    rw [show ((x.n.toNat : Nat) : Int) = x.n by omega]
    exact t.last x hx
  · intro e he
    obtain ⟨x, hx, rfl⟩ := List.mem_map.1 he
    have hr := t.rng x hx
    show x.last = if Maps.has (DataW.map []) (.int .i64 x.n) then _ else newestOf D pl (x.n.toNat : Int)
    rw [if_neg (by rw [has_empty]; simp), show ((x.n.toNat : Nat) : Int) = x.n by omega]
    exact t.last x hx
  · intro e he
    obtain ⟨x, hx, rfl⟩ := List.mem_map.1 he
    rw [has_empty]
    rfl
  · intro k h0 h1 hno
    obtain ⟨a, b⟩ := t.no k h0 h1 (fun e he => hno (flOf e) (List.mem_map.2 ⟨e, he, rfl⟩))
    refine ⟨has_empty k, ?_⟩
    show newestOf D pl (k.toNat : Int) = zeros
    rw [show ((k.toNat : Nat) : Int) = k by omega]
    simp [newestOf, a, b]

theorem has_put {k j : Int} (hm : IsMap D) (l : List Int) : Maps.has (D.put (.int .i64 k) (.held l)) (.int .i64 j) = if j = k then true else Maps.has D (.int .i64 j) := by
  by_cases e : j = k
  · subst e
    rw [if_pos rfl]
    exact Maps.has_put_same hm (by simp [WideAt.IsKeyLit]) _
  · rw [if_neg e]
    exact Maps.has_put_other (by simpa using e) _
theorem newest_put {k j : Int} (hm : IsMap D) (l : List Int) : newestOf (D.put (.int .i64 k) (.held l)) pl j = if j = k then l else newestOf D pl j := by
  unfold newestOf
  rw [has_put hm]
  by_cases e : j = k
  · subst e
    rw [if_pos rfl, if_pos rfl, if_pos rfl]
    simp only [bufAt]
    rw [Maps.atKey_put_same hm (by simp [WideAt.IsKeyLit])]
  · rw [if_neg e, if_neg e]
    simp only [bufAt]
    rw [Maps.atKey_put_other (by simpa using e)]
theorem Tells.uniq (t : Tells N pl D es) {i j : Nat} (hi : i < es.length) (hj : j < es.length) (h : es[i].n = es[j].n) : i = j := by
  rcases Nat.lt_trichotomy i j with h1 | h1 | h1
  · have := List.pairwise_iff_getElem.1 t.rise i j hi hj h1; omega
  · exact h1
  · have := List.pairwise_iff_getElem.1 t.rise j i hj hi h1; omega

theorem Tells.write (t : Tells N pl D es) (hm : IsMap D) {n : Int} {l : List Int} (h0 : 0 ≤ n) (h1 : n < N) (hw : Wrote es n l es') : Tells N pl (D.put (.int .i64 n) (.held l)) es' := by
  obtain ⟨k, p, ⟨e, g, c, he, hn, rfl⟩ | ⟨hno, og, oc, g, c, rfl⟩⟩ := hw
  · have hkl := (List.getElem?_eq_some_iff.1 he).1
    have hke := (List.getElem?_eq_some_iff.1 he).2
    have hmem := List.mem_of_getElem? he
    have hns : (es.set k { e with lg := g, lc := c, last := l, d := true }).map (·.n) = es.map (·.n) := by
      rw [List.map_set]
      refine List.ext_getElem? fun j => ?_
      rw [List.getElem?_set]
      split
      · rename_i hjk
        subst hjk
        simp [hkl, hke]
      · rfl
    have hold : ∀ x ∈ es.set k { e with lg := g, lc := c, last := l, d := true }, x = { e with lg := g, lc := c, last := l, d := true } ∨ (x ∈ es ∧ x.n ≠ n) := by
      intro x hx
      obtain ⟨j, hj, rfl⟩ := List.mem_iff_getElem.1 hx
      rw [List.length_set] at hj
      by_cases hjk : k = j
      · subst hjk; exact .inl (by simp)
      · refine .inr ?_
        rw [List.getElem_set_ne hjk]
        refine ⟨List.getElem_mem _, fun hh => hjk (t.uniq hkl hj ?_)⟩
        rw [hke, hn, hh]
    refine ⟨?_, ?_, ?_, ?_, ?_, ?_⟩
    · have := t.rise
      rw [← List.pairwise_map (f := fun s : Sc => s.n) (R := fun a b => a < b)] at this ⊢
      rw [hns]
      exact this
    · intro x hx
      rcases hold x hx with rfl | ⟨h, _⟩
      · exact t.rng e hmem
      · exact t.rng x h
    · intro x hx
      rcases hold x hx with rfl | ⟨h, _⟩
      · exact t.on e hmem
      · exact t.on x h
    · intro x hx
      rw [newest_put hm]
      rcases hold x hx with rfl | ⟨h, hne⟩
      · show l = if e.n = n then l else _
        rw [if_pos hn]
      · rw [if_neg hne]
        exact t.last x h
    · intro x hx
      rw [has_put hm]
      rcases hold x hx with rfl | ⟨h, hne⟩
      · show true = if e.n = n then true else _
        rw [if_pos hn]
      · rw [if_neg hne]
        exact t.d x h
    · intro j hj0 hj1 hnj
      have hmap : ∀ y ∈ es, y.n ≠ j := fun y hy hyj => by
        have : y.n ∈ es.map (·.n) := List.mem_map.2 ⟨y, hy, rfl⟩
        rw [← hns] at this
        obtain ⟨z, hz, hzn⟩ := List.mem_map.1 this
        exact hnj z hz (hzn.trans hyj)
      obtain ⟨a, b⟩ := t.no j hj0 hj1 hmap
      refine ⟨?_, b⟩
      rw [has_put hm, if_neg (fun hh => hmap e hmem (hn.trans hh.symm))]
      exact a
  · have hsplit : es = es.take k ++ es.drop k := (List.take_append_drop k es).symm
    have hnone : ∀ x ∈ es, x.n ≠ n := by
      intro x hx
      obtain ⟨j, hj, rfl⟩ := List.mem_iff_getElem.1 hx
      rcases Nat.lt_trichotomy j k with h | h | h
      · have := p.lo j es[j] h (List.getElem?_eq_getElem _); omega
      · subst h; exact hno _ (List.getElem?_eq_getElem _)
      · have a1 := p.hi es[k] (List.getElem?_eq_getElem (by omega))
        have a2 := List.pairwise_iff_getElem.1 t.rise k j (by omega) hj h
        omega
    have hold : ∀ x ∈ es.take k ++ ⟨n, og, oc, g, c, zeros, l, true⟩ :: es.drop k, x = ⟨n, og, oc, g, c, zeros, l, true⟩ ∨ x ∈ es := by
      intro x hx
      rcases List.mem_append.1 hx with hx | hx
      · exact .inr (List.mem_of_mem_take hx)
      · rcases List.mem_cons.1 hx with hx | hx
        · exact .inl hx
        · exact .inr (List.mem_of_mem_drop hx)
    obtain ⟨a0, b0⟩ := t.no n h0 h1 hnone
    refine ⟨?_, ?_, ?_, ?_, ?_, ?_⟩
    · have hr := t.rise
      rw [hsplit] at hr
      obtain ⟨r1, r2, r3⟩ := List.pairwise_append.1 hr
      refine List.pairwise_append.2 ⟨r1, List.pairwise_cons.2 ⟨fun x hx => ?_, r2⟩, fun x hx y hy => ?_⟩
      · obtain ⟨j, hj, rfl⟩ := List.mem_iff_getElem.1 hx
        rw [List.length_drop] at hj
        rw [List.getElem_drop]
        show n < es[k + j].n
        have a1 := p.hi es[k] (List.getElem?_eq_getElem (by omega))
        have a3 := hno es[k] (List.getElem?_eq_getElem (by omega))
        by_cases hj0 : j = 0
        · subst hj0; simp only [Nat.add_zero]; omega
        · have a2 := List.pairwise_iff_getElem.1 t.rise k (k + j) (by omega) (by omega) (by omega)
          omega
      · rcases List.mem_cons.1 hy with rfl | hy
        · obtain ⟨j, hj, rfl⟩ := List.mem_iff_getElem.1 hx
          rw [List.length_take] at hj
          rw [List.getElem_take]
          exact p.lo j es[j] (by omega) (List.getElem?_eq_getElem _)
        · exact r3 x hx y hy
    · intro x hx
      rcases hold x hx with rfl | h
      · exact ⟨h0, h1⟩
      · exact t.rng x h
    · intro x hx
      rcases hold x hx with rfl | h
      · exact b0.symm
      · exact t.on x h
    · intro x hx
      rw [newest_put hm]
      rcases hold x hx with rfl | h
      · show l = if n = n then l else _
        rw [if_pos rfl]
      · rw [if_neg (hnone x h)]
        exact t.last x h
    · intro x hx
      rw [has_put hm]
      rcases hold x hx with rfl | h
      · show true = if n = n then true else _
        rw [if_pos rfl]
      · rw [if_neg (hnone x h)]
        exact t.d x h
    · intro j hj0 hj1 hnj
      have hjn : j ≠ n := fun hh => hnj ⟨n, og, oc, g, c, zeros, l, true⟩ (by simp) hh.symm
      obtain ⟨a, b⟩ := t.no j hj0 hj1 (fun y hy => hnj y (by
        rw [hsplit] at hy
        rcases List.mem_append.1 hy with hy | hy
        · exact List.mem_append.2 (.inl hy)
        · exact List.mem_append.2 (.inr (List.mem_cons_of_mem _ hy))))
      refine ⟨?_, b⟩
      rw [has_put hm, if_neg hjn]
      exact a

/-- The numbers that are not flushed. -/
def dirt (es : List Sc) : List Int := (es.filter (fun e => e.d)).map (·.n)
theorem crashTo_at (D : DataW (List Int)) (picks ks : List Int) (pl : Nat → List Int) (k : Int) (m : Nat) : ∀ i, m < i → ks.getD m 0 = k → (∀ q, q ≠ m → q < i → (ks.getD q 0).toNat ≠ k.toNat) →
    crashTo D picks ks pl i k.toNat = (bufAt D k).take (frontOf (picks.getD m 0)).toNat ++ (pl k.toNat).drop (frontOf (picks.getD m 0)).toNat
  | i + 1, hm, hk, h => by
    by_cases e : m = i
    · subst e
      show (if k.toNat = (ks.getD m 0).toNat then (bufAt D (ks.getD m 0)).take (frontOf (picks.getD m 0)).toNat ++ (crashTo D picks ks pl m k.toNat).drop (frontOf (picks.getD m 0)).toNat else _) = _
      rw [hk, if_pos rfl, crashTo_other D picks ks pl k.toNat m (fun q hq => h q (by omega) (by omega))]
    · show (if k.toNat = (ks.getD i 0).toNat then _ else crashTo D picks ks pl i k.toNat) = _
      rw [if_neg (fun e2 => h i (fun e3 => e e3.symm) (by omega) e2.symm)]
      exact crashTo_at D picks ks pl k m i (by omega) hk (fun q hq hqi => h q hq (by omega))
theorem dirt_at {es : List Sc} {j : Nat} {e : Sc} (h : es[j]? = some e) (hd : e.d = true) : (dirt es)[cnt es j]? = some e.n := by
  have hj := (List.getElem?_eq_some_iff.1 h).1
  have he := (List.getElem?_eq_some_iff.1 h).2
  have hs : es = es.take j ++ e :: es.drop (j + 1) := by
    rw [← he, ← List.drop_eq_getElem_cons hj, List.take_append_drop]
  have e1 : dirt es = dirt (es.take j) ++ e.n :: dirt (es.drop (j + 1)) := by
    conv => lhs; rw [hs]
    simp [dirt, hd]
  rw [e1, List.getElem?_append_right (by simp [dirt, cnt])]
  simp [dirt, cnt]
theorem dirt_len (es : List Sc) : (dirt es).length = cnt es es.length := by simp [dirt, cnt]

theorem Tells.keys (t : Tells N pl D es) {w : World} {mb nn : Nat} (hb : w.ownsMap Try.prog 3 secR mb nn D) (hk : ∀ k, Maps.has D (.int .i64 k) = true → 0 ≤ k ∧ k < N) {ks : List Int} (hp : ks.Perm (intKeys D)) (hs : ks.Pairwise (· ≤ ·)) : ks = dirt es := by
  have hlt : (dirt es).Pairwise (· < ·) := by
    unfold dirt
    rw [List.pairwise_map]
    exact t.rise.filter _
  refine List.Perm.eq_of_pairwise (le := fun a b => a ≤ b) (fun a b _ _ h1 h2 => by omega) hs (hlt.imp (fun h => by omega)) (hp.trans ?_)
  refine (List.perm_ext_iff_of_nodup (keys_nodup hb) (hlt.imp (fun h => by omega))).2 fun x => ⟨fun hx => ?_, fun hx => ?_⟩
  · have hh := has_of_key hb hx
    obtain ⟨h0, h1⟩ := hk x hh
    by_cases hex : ∃ e ∈ es, e.n = x
    · obtain ⟨e, he, rfl⟩ := hex
      refine List.mem_map.2 ⟨e, List.mem_filter.2 ⟨he, ?_⟩, rfl⟩
      rw [t.d e he]; exact hh
    · have := (t.no x h0 h1 (fun e he hn => hex ⟨e, he, hn⟩)).1
      rw [hh] at this
      cases this
  · obtain ⟨e, he, rfl⟩ := List.mem_map.1 hx
    obtain ⟨he, hd⟩ := List.mem_filter.1 he
    refine key_of_has hb ?_
    rw [← t.d e he]
    exact hd

theorem Tells.crash (t : Tells N pl D es) {picks : List Int} (hc : CrashedTo picks es es' es.length) : Tells N (crashTo D picks (dirt es) pl (dirt es).length) (.map []) es' := by
  have hlen := hc.len
  have hlt : (dirt es).Pairwise (· < ·) := by
    unfold dirt
    rw [List.pairwise_map]
    exact t.rise.filter _
  have hget : ∀ q, q < (dirt es).length → ∃ e ∈ es, e.d = true ∧ (dirt es).getD q 0 = e.n := by
    intro q hq
    have : (dirt es).getD q 0 ∈ dirt es := by
      rw [show (dirt es).getD q 0 = (dirt es)[q] by simp [hq]]
      exact List.getElem_mem _
    obtain ⟨e, he, hn⟩ := List.mem_map.1 this
    obtain ⟨he, hd⟩ := List.mem_filter.1 he
    exact ⟨e, he, hd, hn.symm⟩
  have hclean : ∀ k : Int, 0 ≤ k → (∀ e ∈ es, e.n = k → e.d = false) → crashTo D picks (dirt es) pl (dirt es).length k.toNat = pl k.toNat := by
    intro k h0 h
    refine crashTo_other _ _ _ _ _ _ (fun m hm hh => ?_)
    obtain ⟨e, he, hd, hn⟩ := hget m hm
    have hr := t.rng e he
    rw [hn] at hh
    have := h e he (by omega)
    rw [hd] at this
    cases this
  have key : ∀ (j : Nat) (e e' : Sc), es[j]? = some e → es'[j]? = some e' → Risen picks (cnt es j) e e' → e'.n = e.n ∧ e'.d = false ∧ e'.on = crashTo D picks (dirt es) pl (dirt es).length e.n.toNat ∧ e'.last = crashTo D picks (dirt es) pl (dirt es).length e.n.toNat := by
    intro j e e' he he' hr
    have hmem := List.mem_of_getElem? he
    have hrg := t.rng e hmem
    obtain ⟨r1, r2, r3, r4⟩ := hr
    refine ⟨r1, r2, ?_⟩
    cases hd : e.d
    · have := r4 hd
      subst this
      have hcl := hclean e'.n hrg.1 (fun x hx hn => by
        obtain ⟨q, hq, rfl⟩ := List.mem_iff_getElem.1 hx
        have hj := (List.getElem?_eq_some_iff.1 he).1
        have hje := (List.getElem?_eq_some_iff.1 he).2
        have : q = j := t.uniq hq hj (by rw [hje, hn])
        subst this
        rw [hje]; exact hd)
      rw [hcl]
      refine ⟨t.on _ hmem, ?_⟩
      rw [t.last _ hmem]
      unfold newestOf
      rw [← t.d _ hmem, hd]
      rfl
    · obtain ⟨q1, q2⟩ := r3 hd
      have hda := dirt_at he hd
      have hlt2 := (List.getElem?_eq_some_iff.1 hda).1
      have hca := crashTo_at D picks (dirt es) pl e.n (cnt es j) (dirt es).length hlt2 (by rw [List.getD_eq_getElem?_getD, hda]; rfl) (fun q hq hql hh => by
        obtain ⟨x, hx, hxd, hxn⟩ := hget q hql
        have hxr := t.rng x hx
        have hv : (dirt es).getD q 0 = e.n := by rw [hxn] at hh ⊢; omega
        have g1 : (dirt es)[q] = e.n := by rw [← hv]; simp [hql]
        have g2 : (dirt es)[cnt es j] = e.n := (List.getElem?_eq_some_iff.1 hda).2
        rcases Nat.lt_or_gt_of_ne hq with h | h
        · have := List.pairwise_iff_getElem.1 hlt q (cnt es j) hql hlt2 h; omega
        · have := List.pairwise_iff_getElem.1 hlt (cnt es j) q hlt2 hql h; omega)
      have hb : e.last = bufAt D e.n := by
        rw [t.last e hmem]
        unfold newestOf
        rw [← t.d e hmem, hd]
        rfl
      have ht : tornBy e (picks.getD (cnt es j) 0) = crashTo D picks (dirt es) pl (dirt es).length e.n.toNat := by
        rw [hca]
        unfold tornBy
        rw [hb, t.on e hmem]
      exact ⟨q1.trans ht, q2.trans ht⟩
  have each : ∀ (j : Nat) (e' : Sc), es'[j]? = some e' → ∃ e, es[j]? = some e ∧ e'.n = e.n ∧ e'.d = false ∧ e'.on = crashTo D picks (dirt es) pl (dirt es).length e.n.toNat ∧ e'.last = crashTo D picks (dirt es) pl (dirt es).length e.n.toNat := by
    intro j e' he'
    have hj := (List.getElem?_eq_some_iff.1 he').1
    obtain ⟨x, hx, hr⟩ := hc.lo j es[j] (List.getElem?_eq_getElem (by omega)) (by omega)
    rw [he'] at hx
    cases hx
    exact ⟨es[j], List.getElem?_eq_getElem _, key j _ _ (List.getElem?_eq_getElem _) he' hr⟩
  have each' : ∀ e' ∈ es', ∃ e ∈ es, e'.n = e.n ∧ e'.d = false ∧ e'.on = crashTo D picks (dirt es) pl (dirt es).length e.n.toNat ∧ e'.last = crashTo D picks (dirt es) pl (dirt es).length e.n.toNat := by
    intro e' he'
    obtain ⟨j, hj, rfl⟩ := List.mem_iff_getElem.1 he'
    obtain ⟨e, he, r⟩ := each j es'[j] (List.getElem?_eq_getElem _)
    exact ⟨e, List.mem_of_getElem? he, r⟩
  refine ⟨?_, ?_, ?_, ?_, ?_, ?_⟩
  · refine List.pairwise_iff_getElem.2 fun i j hi hj hij => ?_
    obtain ⟨a, ha, an, _⟩ := each i es'[i] (List.getElem?_eq_getElem _)
    obtain ⟨b, hb, bn, _⟩ := each j es'[j] (List.getElem?_eq_getElem _)
    rw [an, bn, ← (List.getElem?_eq_some_iff.1 ha).2, ← (List.getElem?_eq_some_iff.1 hb).2]
    exact List.pairwise_iff_getElem.1 t.rise i j _ _ hij
  · intro e' he'
    obtain ⟨e, he, hn, _⟩ := each' e' he'
    rw [hn]; exact t.rng e he
  · intro e' he'
    obtain ⟨e, he, hn, _, ho, _⟩ := each' e' he'
    rw [hn]; exact ho
  · intro e' he'
    obtain ⟨e, he, hn, _, _, hl⟩ := each' e' he'
    rw [hl, hn]
    unfold newestOf
    rw [has_empty]
    rfl
  · intro e' he'
    obtain ⟨e, he, hn, hd, _⟩ := each' e' he'
    rw [has_empty]; exact hd
  · intro k h0 h1 hno
    have hno' : ∀ e ∈ es, e.n ≠ k := by
      intro e he hn
      obtain ⟨j, hj, rfl⟩ := List.mem_iff_getElem.1 he
      obtain ⟨e', he', hr⟩ := hc.lo j es[j] (List.getElem?_eq_getElem _) hj
      exact hno e' (List.mem_of_getElem? he') (hr.1.trans hn)
    refine ⟨has_empty k, ?_⟩
    rw [hclean k h0 (fun e he hn => absurd hn (hno' e he))]
    exact (t.no k h0 h1 hno').2
end
end Go.Proofs.Ytcnejanckolklaa
