/-
  CONFIGS, AND THE DOCUMENT'S OWN CHECK OF THEM (donjonref9.Config).
-/
import Derived.Test.YtagpjihhnnmhnaaUserRefCheck
namespace Go.Proofs.Ytagpjihhnnmhnaa
open Go.RowKit
set_option linter.unusedSimpArgs false
set_option linter.unusedVariables false

/-- A label's four cells. -/
structure LabAt (W : World) (p : Addr) (l : Lab) : Prop where
  c0 : W.cell? p = some (.int .i64 l.s)
  c1 : W.cell? ⟨p.block, p.off + 1, none⟩ = some (.int .i64 l.c)
  c2 : W.cell? ⟨p.block, p.off + 2, none⟩ = some (.int .i64 l.i)
  c3 : W.cell? ⟨p.block, p.off + 3, none⟩ = some (.int .i64 l.k)
theorem LabAt.below {W W' : World} {p : Addr} {l : Lab} (h : LabAt W p l) (b : Below W.heap.size W W') : LabAt W' p l := by
  have hg : p.block < W.heap.size := World.block_lt_of_cell? _ _ h.c0
  exact ⟨(b.cell hg).trans h.c0, (b.cell (p := ⟨p.block, _, none⟩) hg).trans h.c1, (b.cell (p := ⟨p.block, _, none⟩) hg).trans h.c2, (b.cell (p := ⟨p.block, _, none⟩) hg).trans h.c3⟩
def LabsAt (W : World) (a : Option Addr) (l : List Lab) : Prop := ∀ j x, l[j]? = some x → ∃ y, a = some y ∧ LabAt W (y.add (j * 4)) x
theorem LabsAt.below {W W' : World} {a : Option Addr} {l : List Lab} (h : LabsAt W a l) (b : Below W.heap.size W W') : LabsAt W' a l := fun j u hu => by
  obtain ⟨y, hy, hc⟩ := h j u hu
  exact ⟨y, hy, hc.below b⟩
/-- A rule. -/
structure Rul where
  src : Lab
  dst : Lab
  word : ByteArray
structure RulAt (W : World) (p : Addr) (r : Rul) : Prop where
  c0 : W.cell? p = some (.int .i64 r.src.s)
  c1 : W.cell? ⟨p.block, p.off + 1, none⟩ = some (.int .i64 r.src.c)
  c2 : W.cell? ⟨p.block, p.off + 2, none⟩ = some (.int .i64 r.src.i)
  c3 : W.cell? ⟨p.block, p.off + 3, none⟩ = some (.int .i64 r.src.k)
  c4 : W.cell? ⟨p.block, p.off + 4, none⟩ = some (.int .i64 r.dst.s)
  c5 : W.cell? ⟨p.block, p.off + 5, none⟩ = some (.int .i64 r.dst.c)
  c6 : W.cell? ⟨p.block, p.off + 6, none⟩ = some (.int .i64 r.dst.i)
  c7 : W.cell? ⟨p.block, p.off + 7, none⟩ = some (.int .i64 r.dst.k)
  c8 : W.cell? ⟨p.block, p.off + 8, none⟩ = some (.string r.word)
theorem RulAt.below {W W' : World} {p : Addr} {r : Rul} (h : RulAt W p r) (b : Below W.heap.size W W') : RulAt W' p r := by
  have hg : p.block < W.heap.size := World.block_lt_of_cell? _ _ h.c0
  exact ⟨(b.cell hg).trans h.c0, (b.cell (p := ⟨p.block, _, none⟩) hg).trans h.c1, (b.cell (p := ⟨p.block, _, none⟩) hg).trans h.c2, (b.cell (p := ⟨p.block, _, none⟩) hg).trans h.c3, (b.cell (p := ⟨p.block, _, none⟩) hg).trans h.c4, (b.cell (p := ⟨p.block, _, none⟩) hg).trans h.c5, (b.cell (p := ⟨p.block, _, none⟩) hg).trans h.c6, (b.cell (p := ⟨p.block, _, none⟩) hg).trans h.c7, (b.cell (p := ⟨p.block, _, none⟩) hg).trans h.c8⟩
def RulsAt (W : World) (a : Option Addr) (l : List Rul) : Prop := ∀ j x, l[j]? = some x → ∃ y, a = some y ∧ RulAt W (y.add (j * 9)) x
theorem RulsAt.below {W W' : World} {a : Option Addr} {l : List Rul} (h : RulsAt W a l) (b : Below W.heap.size W W') : RulsAt W' a l := fun j u hu => by
  obtain ⟨y, hy, hc⟩ := h j u hu
  exact ⟨y, hy, hc.below b⟩
def okR (r : Rul) : Bool := (chkL r.src == 0) && ((chkL r.dst == 0) && name r.word)
def okT (l : Lab) : Bool := chkL l == 0
/-- What the document's Config answers. -/
def cfgChk (ts : List Lab) (us : List Usr) (rs : List Rul) : Int :=
  if ts.length < 1 ∨ 8 < ts.length then 4 else if ts.all okT = false then 1 else if uchk us ≠ 0 then uchk us else if 8 < rs.length then 4 else if rs.all okR = true then 0 else 1
theorem all_drop_at {α : Type} {l : List α} {f : α → Bool} {i : Nat} {x : α} (h : l[i]? = some x) : (l.drop i).all f = (f x && (l.drop (i + 1)).all f) := by
  have hil := (List.getElem?_eq_some_iff.1 h).1
  rw [List.drop_eq_getElem_cons hil, List.all_cons, (List.getElem?_eq_some_iff.1 h).2]
theorem chk_two (l : Lab) : chkL l = 0 ∨ chkL l = 1 := by unfold chkL; split <;> simp
theorem bne_of {k : Int} {b : Bool} (h : (k == 0) = b) : (k != 0) = !b := by rw [bne, h]

set_option maxRecDepth 8000 in
set_option maxHeartbeats 4000000 in
theorem rconfig_any (at_ au ar : Option Addr) (ts : List Lab) (us : List Usr) (rs : List Rul) (nt ct nu cu nr cr : Nat) (ht : ts.length = nt) (hu : us.length = nu) (hr : rs.length = nr)
    (hsz : ∀ u ∈ us, u.name.size ≤ 9223372036854775807) (hsr : ∀ r ∈ rs, r.word.size ≤ 9223372036854775807) (w : World) (hT : LabsAt w at_ ts) (hU : UsrsAt w au us) (hR : RulsAt w ar rs) :
    Calls Try.prog 12 #[.agg #[.slice at_ nt ct, .slice au nu cu, .slice ar nr cr]] w fun e w' => e = .returned (.int .i64 (cfgChk ts us rs)) ∧ Below w.heap.size w w' := by
  have hB0 := alloc_below w (.cells #[.slice at_ nt ct, .slice au nu cu, .slice ar nr cr] 26)
  have hbox : ∀ W, Below (w.alloc (.cells #[.slice at_ nt ct, .slice au nu cu, .slice ar nr cr] 26)).heap.size (w.alloc (.cells #[.slice at_ nt ct, .slice au nu cu, .slice ar nr cr] 26)) W → W.cell? ⟨w.heap.size, 0, none⟩ = some (.slice at_ nt ct) ∧ W.cell? ⟨w.heap.size, 1, none⟩ = some (.slice au nu cu) ∧ W.cell? ⟨w.heap.size, 2, none⟩ = some (.slice ar nr cr) := fun W b => by
    refine ⟨(b.cell (p := ⟨w.heap.size, 0, none⟩) (by simp)).trans ?_, (b.cell (p := ⟨w.heap.size, 1, none⟩) (by simp)).trans ?_, (b.cell (p := ⟨w.heap.size, 2, none⟩) (by simp)).trans ?_⟩ <;> simp [World.cell?_alloc_at]
  obtain ⟨res, hres⟩ : ∃ res, cfgChk ts us rs = res := ⟨_, rfl⟩
  rw [hres]
  unfold cfgChk at hres
  rw [ht, hr] at hres
  by_cases h1 : nt < 1 ∨ 8 < nt
  · rw [if_pos h1] at hres
    subst hres
    rcases h1 with h1 | h1
    · have i1 : (nt : Int) < 1 := by omega
      go_enter Try.func12, Try.ntmps12
      go_wp2
      go_ret
      exact ⟨rfl, hB0⟩
    · have i1 : ¬ (nt : Int) < 1 := by omega
      have i2 : (8 : Int) < (nt : Int) := by omega
      go_enter Try.func12, Try.ntmps12
      go_wp2
      go_ret
      exact ⟨rfl, hB0⟩
  rw [if_neg h1] at hres
  have i1 : ¬ (nt : Int) < 1 := by omega
  have i2 : ¬ (8 : Int) < (nt : Int) := by omega
  obtain ⟨rest, hrest⟩ : ∃ rest : Int, (if uchk us ≠ 0 then uchk us else if 8 < nr then 4 else if rs.all okR = true then 0 else 1) = rest := ⟨_, rfl⟩
  rw [hrest] at hres
  have hres0 : Aside (res = if (ts.drop 0).all okT = false then 1 else rest) := hres.symm
  clear hres
  go_enter Try.func12, Try.ntmps12
  have hb0 := hbox _ (Below.refl _ _)
  go_wp2_with fail
  go_loopw [3] (fun t3 wr => ∃ i : Nat, i ≤ nt ∧ t3 = .int .i64 (i : Int) ∧ Below (w.alloc (.cells #[.slice at_ nt ct, .slice au nu cu, .slice ar nr cr] 26)).heap.size (w.alloc (.cells #[.slice at_ nt ct, .slice au nu cu, .slice ar nr cr] 26)) wr ∧ Aside (res = if (ts.drop i).all okT = false then 1 else rest)) (fun t3 _ => nt - (Go.RowKit.intOf t3).toNat)
  case atStart => exact ⟨0, by omega, rfl, Below.refl _ _, hres0⟩
  case round =>
    obtain ⟨i, hi, rfl, hB, hall⟩ := hrel
    obtain ⟨b0, b1, b2⟩ := hbox _ hB
    by_cases hlt : i < nt
    · obtain ⟨x, hx⟩ : ∃ x, ts[i]? = some x := ⟨_, List.getElem?_eq_getElem (by omega)⟩
      obtain ⟨y, rfl, hL⟩ := (hT.below (Below.then hB0 hB)) i x hx
      obtain ⟨c0, c1, c2, c3⟩ := hL
      rw [all_drop_at hx] at hall
      have cL := rlcheck_any x
      unfold okT at hall
      cases hq : (chkL x == 0)
      · have hq2 := bne_of hq
        rw [hq, Bool.false_and, if_pos rfl] at hall
        have hall := hall.out
        subst hall
        obtain ⟨k, hk⟩ : ∃ k, chkL x = k := ⟨_, rfl⟩
        rw [hk] at cL hq2
        clear hbox hres0 hq hk hrest b1 b2
        as_aux_lemma =>
          go_wp2_with fail
          refine (cL _).mono ?_
          rintro e w2 ⟨rfl, hB2⟩
          go_wp2_with fail
          go_ret
          exact ⟨rfl, Below.then (Below.then hB0 hB) hB2⟩
      · have hq2 := bne_of hq
        rw [hq, Bool.true_and] at hall
        obtain ⟨k, hk⟩ : ∃ k, chkL x = k := ⟨_, rfl⟩
        rw [hk] at cL hq2
        clear hbox hres0 hq hk hrest b1 b2
        as_aux_lemma =>
          go_wp2_with fail
          refine (cL _).mono ?_
          rintro e w2 ⟨rfl, hB2⟩
          go_wp2_with fail
          exact ⟨⟨i + 1, by omega, by simp, Below.then hB hB2, hall⟩, by simp [Go.RowKit.intOf]; omega⟩
    · obtain rfl : i = nt := by omega
      have hBa := Below.then hB0 hB
      have hres : res = rest := by rw [hall.out, List.drop_eq_nil_of_le (by omega)]; rfl
      subst hres
      clear hall hres0
      have cC := fun W hW => rucheck_any au us nu cu hu hsz W hW
      obtain ⟨k, hk⟩ : ∃ k, uchk us = k := ⟨_, rfl⟩
      rw [hk] at hrest
      simp only [hk] at cC
      clear hk
      cases hq : (k == 0)
      · have hq2 := bne_of hq
        have hk0 : k ≠ 0 := by simpa using hq
        rw [if_pos hk0] at hrest
        subst hrest
        have c1 := cC _ (hU.below hBa)
        go_wp2_with fail
        refine c1.mono ?_
        rintro e w2 ⟨rfl, hB2⟩
        have hBb := Below.then hB hB2
        obtain ⟨d0, d1, d2⟩ := hbox _ hBb
        have c2 := cC _ (hU.below (Below.then hBa hB2))
        clear hbox cC c1
        as_aux_lemma =>
          go_wp2_with fail
          refine (c2).mono ?_
          rintro e w3 ⟨rfl, hB3⟩
          go_wp2_with fail
          go_ret
          exact ⟨rfl, Below.then (Below.then hBa hB2) hB3⟩
      · have hq2 := bne_of hq
        have hk0 : k = 0 := by simpa using hq
        subst hk0
        rw [if_neg (by simp)] at hrest
        have c1 := cC _ (hU.below hBa)
        go_wp2_with fail
        refine c1.mono ?_
        rintro e w2 ⟨rfl, hB2⟩
        have hBb := Below.then hB hB2
        have hBc := Below.then hB0 hBb
        obtain ⟨d0, d1, d2⟩ := hbox _ hBb
        clear cC c1 hU hT hsz b0 b1 b2 hBa
        by_cases h8 : 8 < nr
        · rw [if_pos h8] at hrest
          subst hrest
          have i8 : (8 : Int) < (nr : Int) := by omega
          clear hbox
          as_aux_lemma =>
            go_wp2_with fail
            go_ret
            exact ⟨rfl, hBc⟩
        · rw [if_neg h8] at hrest
          have i8 : ¬ (8 : Int) < (nr : Int) := by omega
          have hres1 : Aside (res = if (rs.drop 0).all okR = true then 0 else 1) := hrest.symm
          clear hrest
          go_wp2_with fail
          go_loopw [4] (fun t4 wr => ∃ j : Nat, j ≤ nr ∧ t4 = .int .i64 (j : Int) ∧ Below (w.alloc (.cells #[.slice at_ i ct, .slice au nu cu, .slice ar nr cr] 26)).heap.size (w.alloc (.cells #[.slice at_ i ct, .slice au nu cu, .slice ar nr cr] 26)) wr ∧ Aside (res = if (rs.drop j).all okR = true then 0 else 1)) (fun t4 _ => nr - (Go.RowKit.intOf t4).toNat)
          case atStart => exact ⟨0, by omega, rfl, hBb, hres1⟩
          case round =>
            obtain ⟨j, hj, rfl, hBj, hall⟩ := hrel
            obtain ⟨e0, e1, e2⟩ := hbox _ hBj
            by_cases hjlt : j < nr
            · obtain ⟨x, hx⟩ : ∃ x, rs[j]? = some x := ⟨_, List.getElem?_eq_getElem (by omega)⟩
              have hxs := hsr x (List.mem_of_getElem? hx)
              obtain ⟨y, rfl, hL⟩ := (hR.below (Below.then hB0 hBj)) j x hx
              have hLk := fun W (b : Below wr.heap.size wr W) => hL.below b
              have hbk := fun W (b : Below wr.heap.size wr W) => hbox W (Below.then hBj b)
              rw [all_drop_at hx] at hall
              have cS := rlcheck_any x.src
              have cD := rlcheck_any x.dst
              have cN := rname_any x.word hxs
              unfold okR at hall
              obtain ⟨c0, c1, c2, c3, c4, c5, c6, c7, c8⟩ := hL
              obtain ⟨ks, hks⟩ : ∃ k, chkL x.src = k := ⟨_, rfl⟩
              obtain ⟨kd, hkd⟩ : ∃ k, chkL x.dst = k := ⟨_, rfl⟩
              rw [hks] at cS hall
              rw [hkd] at cD hall
              clear hks hkd hbox hres1 hx
              cases hqs : (ks == 0)
              · have hs2 := bne_of hqs
                rw [hqs, Bool.false_and, Bool.false_and, if_neg (by simp)] at hall
                have hall := hall.out
                subst hall
                clear hLk hbk
                as_aux_lemma =>
                  go_wp2_with fail
                  refine (cS _).mono ?_
                  rintro e w3 ⟨rfl, hB3⟩
                  go_wp2_with fail
                  go_ret
                  exact ⟨rfl, Below.then (Below.then hB0 hBj) hB3⟩
              have hs2 := bne_of hqs
              rw [hqs, Bool.true_and] at hall
              cases hqd : (kd == 0)
              · have hd2 := bne_of hqd
                rw [hqd, Bool.false_and, Bool.false_and, if_neg (by simp)] at hall
                have hall := hall.out
                subst hall
                as_aux_lemma =>
                  go_wp2_with fail
                  refine (cS _).mono ?_
                  rintro e w3 ⟨rfl, hB3⟩
                  obtain ⟨f0, f1, f2⟩ := hbk _ hB3
                  obtain ⟨g0, g1, g2, g3, g4, g5, g6, g7, g8⟩ := hLk _ hB3
                  clear hLk hbk
                  go_wp2_with fail
                  refine (cD _).mono ?_
                  rintro e w4 ⟨rfl, hB4⟩
                  go_wp2_with fail
                  go_ret
                  exact ⟨rfl, Below.then (Below.then (Below.then hB0 hBj) hB3) hB4⟩
              have hd2 := bne_of hqd
              rw [hqd, Bool.true_and] at hall
              cases hqn : name x.word
              · rw [hqn, Bool.false_and, if_neg (by simp)] at hall
                have hall := hall.out
                subst hall
                rw [hqn] at cN
                as_aux_lemma =>
                  go_wp2_with fail
                  refine (cS _).mono ?_
                  rintro e w3 ⟨rfl, hB3⟩
                  obtain ⟨f0, f1, f2⟩ := hbk _ hB3
                  obtain ⟨g0, g1, g2, g3, g4, g5, g6, g7, g8⟩ := hLk _ hB3
                  go_wp2_with fail
                  refine (cD _).mono ?_
                  rintro e w4 ⟨rfl, hB4⟩
                  obtain ⟨k0, k1, k2⟩ := hbk _ (Below.then hB3 hB4)
                  obtain ⟨m0, m1, m2, m3, m4, m5, m6, m7, m8⟩ := hLk _ (Below.then hB3 hB4)
                  clear hLk hbk
                  go_wp2_with fail
                  refine (cN _).mono ?_
                  rintro e w' ⟨rfl, hw'⟩
                  have hw' := hw'.symm
                  subst hw'
                  go_wp2_with fail
                  go_ret
                  exact ⟨rfl, Below.then (Below.then (Below.then hB0 hBj) hB3) hB4⟩
              · rw [hqn, Bool.true_and] at hall
                rw [hqn] at cN
                as_aux_lemma =>
                  go_wp2_with fail
                  refine (cS _).mono ?_
                  rintro e w3 ⟨rfl, hB3⟩
                  obtain ⟨f0, f1, f2⟩ := hbk _ hB3
                  obtain ⟨g0, g1, g2, g3, g4, g5, g6, g7, g8⟩ := hLk _ hB3
                  go_wp2_with fail
                  refine (cD _).mono ?_
                  rintro e w4 ⟨rfl, hB4⟩
                  obtain ⟨k0, k1, k2⟩ := hbk _ (Below.then hB3 hB4)
                  obtain ⟨m0, m1, m2, m3, m4, m5, m6, m7, m8⟩ := hLk _ (Below.then hB3 hB4)
                  clear hLk hbk
                  go_wp2_with fail
                  refine (cN _).mono ?_
                  rintro e w' ⟨rfl, hw'⟩
                  have hw' := hw'.symm
                  subst hw'
                  go_wp2_with fail
                  exact ⟨⟨j + 1, by omega, by simp, Below.then (Below.then hBj hB3) hB4, hall⟩, by simp [Go.RowKit.intOf]; omega⟩
            · have hres : res = 0 := by rw [hall.out, List.drop_eq_nil_of_le (by omega)]; rfl
              subst hres
              clear hbox
              as_aux_lemma =>
                go_wp2_with fail
                go_ret
                exact ⟨rfl, Below.then hB0 hBj⟩
end Go.Proofs.Ytagpjihhnnmhnaa
