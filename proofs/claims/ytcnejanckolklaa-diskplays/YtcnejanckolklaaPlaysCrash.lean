/-
  THE DOCUMENT'S OWN DISK: Crash.
-/
import Derived.Test.YtcnejanckolklaaPlaysWrite
namespace Go.Proofs.Ytcnejanckolklaa
open Go.RowKit Go.Maps
set_option linter.unusedSimpArgs false
set_option linter.unusedVariables false

/-- How many of the first i are not flushed. -/
def cnt (es : List Sc) (i : Nat) : Nat := ((es.take i).filter (fun e => e.d)).length
theorem cnt_zero (es : List Sc) : cnt es 0 = 0 := rfl
theorem cnt_step {es : List Sc} {i : Nat} {e : Sc} (h : es[i]? = some e) : cnt es (i + 1) = cnt es i + (if e.d then 1 else 0) := by
  unfold cnt
  rw [List.take_add_one, h]
  cases hd : e.d <;> simp [hd]
theorem cnt_le (es : List Sc) (i : Nat) : cnt es i ≤ es.length := by
  unfold cnt
  exact Nat.le_trans (List.length_filter_le _ _) (by rw [List.length_take]; omega)
/-- A front of the newer bytes, the rest of the elder ones. -/
def tornBy (e : Sc) (pick : Int) : List Int := e.last.take (frontOf pick).toNat ++ e.on.drop (frontOf pick).toNat
/-- One sector behind a crash. -/
def Risen (picks : List Int) (c : Nat) (e e' : Sc) : Prop := e'.n = e.n ∧ e'.d = false ∧ (e.d = true → e'.on = tornBy e (picks.getD c 0) ∧ e'.last = tornBy e (picks.getD c 0)) ∧ (e.d = false → e' = e)
structure CrashedTo (picks : List Int) (es es1 : List Sc) (i : Nat) : Prop where
  len : es1.length = es.length
  lo : ∀ j e, es[j]? = some e → j < i → ∃ e', es1[j]? = some e' ∧ Risen picks (cnt es j) e e'
  hi : ∀ j, i ≤ j → es1[j]? = es[j]?
theorem CrashedTo.start (picks : List Int) (es : List Sc) : CrashedTo picks es es 0 := ⟨rfl, fun j e _ hj => by omega, fun _ _ => rfl⟩
theorem CrashedTo.next {picks : List Int} {es es1 : List Sc} {i : Nat} {e e' : Sc} (h : CrashedTo picks es es1 i) (he : es[i]? = some e) (hr : Risen picks (cnt es i) e e') : CrashedTo picks es (es1.set i e') (i + 1) := by
  have hil := (List.getElem?_eq_some_iff.1 he).1
  refine ⟨by rw [List.length_set]; exact h.len, fun j x hx hj => ?_, fun j hj => ?_⟩
  · by_cases hji : j = i
    · subst hji
      rw [he] at hx
      cases hx
      exact ⟨e', by rw [List.getElem?_set_self (by rw [h.len]; exact hil)], hr⟩
    · obtain ⟨y, hy, hh⟩ := h.lo j x hx (by omega)
      exact ⟨y, by rw [List.getElem?_set_ne (by omega)]; exact hy, hh⟩
  · rw [List.getElem?_set_ne (by omega)]
    exact h.hi j (by omega)
theorem CrashedTo.skip {picks : List Int} {es es1 : List Sc} {i : Nat} {e : Sc} (h : CrashedTo picks es es1 i) (he : es[i]? = some e) (hd : e.d = false) : CrashedTo picks es es1 (i + 1) := by
  refine ⟨h.len, fun j x hx hj => ?_, fun j hj => h.hi j (by omega)⟩
  by_cases hji : j = i
  · subst hji
    rw [he] at hx
    cases hx
    exact ⟨e, by rw [h.hi j (Nat.le_refl _)]; exact he, rfl, hd, (fun hh => by rw [hd] at hh; cases hh), fun _ => rfl⟩
  · exact h.lo j x hx (by omega)

/-- append of bytes to a row of one's own. -/
theorem append_by (w : World) (base : Nat) (v : Value) (n : Nat) (l : List Int) (hown : w.ownsRow base 5 1 v n (cellsOf l)) (a : Addr) (m c : Nat) (l2 : List Int) (hl : l2.length = m) (hs : ∀ j, j < m → w.cell? (a.add j) = some (.int .u8 (l2.getD j 0))) (hb : base ≤ w.heap.size) (hnm : n + m < 5000) :
    ∃ v' W', (Builtin.append_ #[31, 31] 31 #[v, .slice (some a) m c]).run Try.prog w = .ok v' W' ∧ W'.ownsRow base 5 1 v' (n + m) (cellsOf (l ++ l2)) ∧ w.grownBy W' v.ownBlock := by
  obtain ⟨i, hi, hzz, hsz, hby⟩ := info_parts info_byte
  obtain ⟨v', W', h2, h3, h4, _⟩ := run_append_own (P := Try.prog) w base 31 31 5 i _ 1 1 Try.underlying31 hi hzz hsz hby rfl (by decide) v n (cellsOf l) hown a m c (cellsOf l2) (by rw [cells_len, hl, Nat.mul_one])
    (fun j u hu => by
      have hj : j < m := by have := (List.getElem?_eq_some_iff.1 hu).1; rw [cells_len, hl] at this; exact this
      rw [hs j hj, ← hu]
      simp [cellsOf, hl, hj]) (cells_one l2) (by simp only [maxLen]; omega) (by omega) hb
  exact ⟨v', W', h2, by rw [show cellsOf (l ++ l2) = cellsOf l ++ cellsOf l2 by simp [cellsOf]]; exact h3, h4⟩
theorem bytes_own {w : World} {base g c : Nat} {l : List Int} (hs : Sec l) (h : w.ownsRow base 5 1 (.slice (some ⟨g, 0, none⟩) 128 c) 128 (cellsOf l)) : BytesAt w g 128 l ∧ 128 ≤ c := by
  have hat : ∀ j, j < 128 → w.cell? ⟨g, j, none⟩ = (cellsOf l)[j]? := fun j hj => h.cellAt j (by omega)
  refine ⟨⟨fun j u hu => ?_, fun j hj => ⟨?_, h.frozenAt _⟩, hs.1, hs.2, (h.lt g rfl).2⟩, ?_⟩
  · have hj : j < 128 := by have := (List.getElem?_eq_some_iff.1 hu).1; rw [cells_len, hs.1] at this; exact this
    rw [Nat.zero_add, hat j hj]
    exact hu
  · rw [Nat.zero_add, hat j hj, List.getElem?_eq_getElem (by rw [cells_len, hs.1]; exact hj)]
    rfl
  · rcases h.2 with ⟨hv, _⟩ | ⟨_, _, _, hv, _, _, hle, _⟩
    · cases hv
    · cases hv; exact hle
/-- Parts of a sector's bytes. -/
def sub1 (g f c : Nat) : Addr := if c = f then ⟨g, 0, none⟩ else ⟨g, f, none⟩
theorem by_to (w : World) (g c f : Nat) (hf : f ≤ 128) (hc : 128 ≤ c) : (Instr.slice 31 (bv g c) none (some (.int .i64 (f : Int))) none).run Try.prog w = .ok (.slice (some ⟨g, 0, none⟩) f c) w := by
  obtain ⟨i, hi, _, hsz, _⟩ := info_parts info_byte
  have h1 : f ≤ c := by omega
  simp [Instr.slice, run_underlying Try.underlying31, Instr.sliceBounds, Instr.sliceBound, asIntOf, sizeOf, typeInfo, hi, hsz, h1, Addr.add_mid]
theorem by_from (w : World) (g c f : Nat) (hf : f ≤ 128) : (Instr.slice 31 (bv g c) (some (.int .i64 (f : Int))) none none).run Try.prog w = .ok (.slice (some (sub1 g f c)) (128 - f) (c - f)) w := by
  obtain ⟨i, hi, _, hsz, _⟩ := info_parts info_byte
  have h1 : (f : Int) ≤ 128 := by omega
  simp [Instr.slice, run_underlying Try.underlying31, Instr.sliceBounds, Instr.sliceBound, asIntOf, sizeOf, typeInfo, hi, hsz, h1, hf, sub1, Addr.add_mid]
  split <;> rfl
theorem sub1_at (g f c j : Nat) (hc : 128 ≤ c) (hj : j < 128 - f) : (sub1 g f c).add j = ⟨g, f + j, none⟩ := by
  unfold sub1
  rw [if_neg (by omega), Addr.add_mid]
theorem torn_sec {e : Sc} (h1 : Sec e.on) (h2 : Sec e.last) (pick : Int) : Sec (tornBy e pick) := by
  have := frontOf_hi pick
  have := frontOf_lo pick
  refine ⟨by unfold tornBy; rw [List.length_append, List.length_take, List.length_drop, h1.1, h2.1]; omega, fun y hy => ?_⟩
  rcases List.mem_append.1 hy with hy | hy
  · exact h2.2 y (List.mem_of_mem_take hy)
  · exact h1.2 y (List.mem_of_mem_drop hy)

section
variable {w w' : World} {F : List Nat} {xb : Nat} {v : Value} {N : Nat} {es : List Sc} {done left : Int} {dead : Bool}
set_option maxRecDepth 4000 in
set_option maxHeartbeats 8000000 in
theorem rcrash_any (h : RefAt w F xb v N es done left dead) (hF : ∀ x ∈ F, x < w.heap.size) (picks : List Int) (pa : Option Addr) (pc pn : Nat) (hpn : picks.length = pn)
    (hp : ∀ j, j < pn → ∃ y, pa = some y ∧ w.cell? (y.add j) = some (.int .i64 (picks.getD j 0)) ∧ (y.add j).block ≠ xb ∧ v.ownBlock ≠ some (y.add j).block) :
    Calls Try.prog 18 #[.pointer (some ⟨xb, 0, none⟩), .slice pa pn pc] w fun e w' => ∃ es', e = .returned (.int .i64 (cnt es es.length : Nat)) ∧ RefAt w' F xb v N es' done 0 false ∧ CrashedTo picks es es' es.length ∧ Kept (xb :: vb v) w w' := by
  have hfew := h.few
  obtain ⟨ln, hle⟩ : ∃ ln, es.length = ln := ⟨_, rfl⟩
  rw [hle] at hfew ⊢
  obtain ⟨a, cap, rfl⟩ := h.slice hle
  go_enter Try.func18, Try.ntmps18
  go_wp2_with fail
  go_loopw [5, 6] (fun t5 t6 wr => ∃ (i : Nat) (es1 : List Sc), i ≤ ln ∧ t6 = .int .i64 (i : Int) ∧ t5 = .int .i64 (cnt es i : Nat) ∧ RefAt wr F xb (.slice a ln cap) N es1 done left dead ∧ CrashedTo picks es es1 i ∧ Kept (xb :: vb (.slice a ln cap)) w wr) (fun _ t6 _ => ln - (Go.RowKit.intOf t6).toNat)
  case atStart => exact ⟨0, es, by omega, rfl, by rw [cnt_zero]; rfl, h, CrashedTo.start _ _, Kept.refl _ _⟩
  case round =>
    obtain ⟨i, es1, hi, rfl, rfl, R, Cr, K⟩ := hrel
    have hl1 : es1.length = ln := Cr.len.trans hle
    have c1 := R.c1
    have hcn := cnt_le es i
    rw [hle] at hcn
    obtain ⟨c, hc⟩ : ∃ c, cnt es i = c := ⟨_, rfl⟩
    rw [hc] at hcn
    by_cases hlt : i < ln
    · obtain ⟨x, hx⟩ : ∃ x, es[i]? = some x := ⟨_, List.getElem?_eq_getElem (by omega)⟩
      have hx1 : es1[i]? = some x := (Cr.hi i (Nat.le_refl _)).trans hx
      have hst := cnt_step hx
      rw [hc] at hst ⊢
      obtain ⟨g, cap', hv, s0, s1, s2, s3, fz, hgx⟩ := R.sect hl1 hx1
      injection hv with q1 q2 q3
      subst q1 q3
      cases hd : x.d
      · rw [hd] at s3 hst
        have hnx := Cr.skip hx hd
        simp only [Bool.false_eq_true, if_false, Nat.add_zero] at hst
        as_aux_lemma =>
          go_wp2_with fail
          exact ⟨⟨i + 1, es1, by omega, by simp, by rw [hst], R, hnx, K⟩, by simp [Go.RowKit.intOf]; omega⟩
      · rw [hd] at s3 hst
        simp only [if_true] at hst
        obtain ⟨fr, hfr⟩ : ∃ fr, (frontOf (picks.getD c 0)).toNat = fr := ⟨_, rfl⟩
        have hf0 := frontOf_lo (picks.getD c 0)
        have hf1 := frontOf_hi (picks.getD c 0)
        have hfe := frontOf_eq (picks.getD c 0)
        have hfr' : frontOf (picks.getD c 0) = (fr : Int) := by omega
        have hfr8 : fr ≤ 128 := by omega
        have hpick : c < pn → ∃ y, pa = some y ∧ wr.cell? (y.add c) = some (.int .i64 (picks.getD c 0)) := fun hh => by
          obtain ⟨y, hy, hc2, hn1, hn2⟩ := hp c hh
          refine ⟨y, hy, Kept.cell K hc2 ?_⟩
          simp only [List.mem_cons, not_or]
          refine ⟨hn1, ?_⟩
          simp only [vb, Value.ownBlock, List.mem_singleton]
          exact fun e => hn2 (by rw [e]; rfl)
        go_upto_if 29 with fail
        go_cut [7] from 26 to 39 (fun t7 wx => t7 = .int .i64 (fr : Int) ∧ wx = wr)
        case first =>
          by_cases hcp : c < pn
          · obtain ⟨y, rfl, hy⟩ := hpick hcp
            obtain ⟨pk, hpk⟩ : ∃ pk, picks.getD c 0 = pk := ⟨_, rfl⟩
            rw [hpk] at hy hfe hfr'
            have b1 := Int.lt_tmod_of_pos pk (by decide : (0 : Int) < 129)
            have b2 := Int.tmod_lt_of_pos pk (by decide : (0 : Int) < 129)
            by_cases hneg : pk.tmod 129 < 0
            · have e1 : pk.tmod 129 + 128 + 1 = (fr : Int) := by
                rw [← hfr', frontOf]
                omega
              as_aux_lemma =>
                go_wp2_with fail
                go_meet
                exact ⟨by rw [← e1], rfl⟩
            · have e1 : pk.tmod 129 = (fr : Int) := by
                rw [← hfr', frontOf]
                omega
              as_aux_lemma =>
                go_wp2_with fail
                go_meet
                exact ⟨by rw [← e1], rfl⟩
          · have e0 : picks.getD c 0 = 0 := by
              rw [List.getD_eq_getElem?_getD, List.getElem?_eq_none (by omega)]
              rfl
            have e1 : (fr : Int) = 0 := by
              rw [← hfr', e0]
              decide
            obtain rfl : fr = 0 := by omega
            as_aux_lemma =>
              go_wp2_with fail
              go_meet
              exact ⟨rfl, rfl⟩
        case rest =>
          obtain ⟨rfl, hwc⟩ := hcut
          have hwc := hwc.symm
          subst hwc
          clear hwc hpick
          go_wp2_with fail
          obtain ⟨b1, o1, b2, o2, f1, f2⟩ := R.bytes x (List.mem_of_getElem? hx1)
          have hso : Sec x.on := ⟨b1.size, b1.ok⟩
          have hsl : Sec x.last := ⟨b2.size, b2.ok⟩
          have ht := torn_sec hso hsl (picks.getD c 0)
          have hte : tornBy x (picks.getD c 0) = x.last.take fr ++ x.on.drop fr := by unfold tornBy; rw [hfr]
          rw [hte] at ht
          have hl1' : (x.last.take fr).length = fr := by rw [List.length_take, hsl.1]; omega
          have hl2' : (x.on.drop fr).length = 128 - fr := by rw [List.length_drop, hso.1]
          obtain ⟨W4, hW4⟩ : ∃ W4, wr.drew.alloc (.cells #[] 5) = W4 := ⟨_, rfl⟩
          have hown4 : W4.ownsRow wr.heap.size 5 1 (.slice (some ⟨wr.heap.size, 0, none⟩) 0 0) 0 (cellsOf []) := by rw [← hW4]; exact World.ownsRow_made wr.drew #[] 0 (Nat.le_refl _) (by simp [maxLen]) rfl
          have K4 : Kept [] wr W4 := by rw [← hW4]; exact (Kept.refl [] wr).drew.alloc _
          have hlcell : ∀ j, j < fr → W4.cell? ((⟨x.lg, 0, none⟩ : Addr).add j) = some (.int .u8 ((x.last.take fr).getD j 0)) := fun j hj => by
            rw [Addr.add_mid]
            have hj1 : j < x.last.length := by rw [hsl.1]; omega
            rw [show (⟨x.lg, 0 + j, none⟩ : Addr) = ⟨x.lg, 0 + j, none⟩ from rfl, (b2.kept K4 (by simp)).cells j (.int .u8 (x.last.getD j 0)) (by simp [cellsOf, hj1])]
            simp [hj]
          obtain ⟨v5, W5, hap1, ho5, hg5⟩ := append_by W4 wr.heap.size _ 0 [] hown4 ⟨x.lg, 0, none⟩ fr x.lc (x.last.take fr) hl1' hlcell K4.size (by omega)
          simp only [Nat.zero_add, List.nil_append] at ho5
          have K5 : Kept [] wr W5 := K4.grown hg5 (fun q hq => .inr (hown4.lt q hq).1)
          have hocell : ∀ j, j < 128 - fr → W5.cell? ((sub1 x.og fr x.oc).add j) = some (.int .u8 ((x.on.drop fr).getD j 0)) := fun j hj => by
            rw [sub1_at _ _ _ _ o1 hj]
            have hj1 : fr + j < x.on.length := by rw [hso.1]; omega
            have := (b1.kept K5 (by simp)).cells (fr + j) (.int .u8 (x.on.getD (fr + j) 0)) (by simp [cellsOf, hj1])
            rw [Nat.zero_add] at this
            rw [this]
            simp
          obtain ⟨v6, W6, hap2, ho6, hg6⟩ := append_by W5 wr.heap.size v5 fr _ ho5 (sub1 x.og fr x.oc) (128 - fr) (x.oc - fr) (x.on.drop fr) hl2' hocell K5.size (by omega)
          have K6 : Kept [] wr W6 := K5.grown hg6 (fun q hq => .inr (ho5.lt q hq).1)
          rw [show fr + (128 - fr) = 128 by omega] at ho6
          obtain ⟨gl, cl, rfl⟩ : ∃ gl cl, v6 = bv gl cl := by
            rcases ho6.2 with ⟨_, h2⟩ | ⟨g', c', cur, hv, _⟩
            · omega
            · exact ⟨g', c', hv⟩
          obtain ⟨hbl, hcl⟩ := bytes_own ht ho6
          have hgl := (ho6.lt gl rfl).1
          have hto := fun W => by_to W x.lg x.lc fr hfr8 o2
          have hfrom := fun W => by_from W x.og x.oc fr hfr8
          have R6 := R.kept K6 (by simp)
          have R5 := R.kept K5 (by simp)
          have R4 := R.kept K4 (by simp)
          have hKw := K.size
          have hxw := R.xbl
          have hgw := (R.row.lt g rfl).2
          have hfar : Far F xb (.slice (some ⟨g, 0, none⟩) ln cap) gl := ⟨fun hx => by have := hF gl hx; omega, by omega, by
            show some g ≠ some gl
            intro hh
            injection hh with hh
            omega⟩
          obtain ⟨R7, K7⟩ := R6.stored (i * 4 + 1) (bv gl cl) (es1.set i { x with og := gl, oc := cl, on := x.last.take fr ++ x.on.drop fr }) (by simp) (es_set1 _ _ _ _ _ _ hx1) (fun e he => by
            rcases List.mem_or_eq_of_mem_set he with he | rfl
            · exact R6.bytes e he
            · obtain ⟨_, _, b2', _, _, _⟩ := R6.bytes x (List.mem_of_getElem? hx1)
              exact ⟨hbl, hcl, b2', o2, hfar, f2⟩)
          obtain ⟨W7, hW7⟩ : ∃ W7, W6.setCell ⟨g, i * 4 + 1, none⟩ (bv gl cl) = W7 := ⟨_, rfl⟩
          rw [hW7] at R7 K7
          have hx7 : (es1.set i { x with og := gl, oc := cl, on := x.last.take fr ++ x.on.drop fr })[i]? = some { x with og := gl, oc := cl, on := x.last.take fr ++ x.on.drop fr } := by rw [List.getElem?_set_self (by omega)]
          obtain ⟨_, a41, a42, _, a4f, _⟩ := R4.sect' hx1
          obtain ⟨_, a51, a52, _, a5f, _⟩ := R5.sect' hx1
          obtain ⟨_, _, a62, _, a6f, _⟩ := R6.sect' hx1
          obtain ⟨_, a71, a72, _, a7f, _⟩ := R7.sect' hx7
          have hSa : (fun W : World => W.cell? ⟨xb, 1, none⟩ = some (.slice (some ⟨g, 0, none⟩) ln cap) ∧ W.cell? ⟨g, i * 4 + 2, none⟩ = some (bv x.lg x.lc) ∧ W.frozen? ⟨g, i * 4 + 1, none⟩ = false) wr.drew := ⟨c1, s2, fz _⟩
          have hSb : (fun W : World => W.cell? ⟨xb, 1, none⟩ = some (.slice (some ⟨g, 0, none⟩) ln cap) ∧ W.cell? ⟨g, i * 4 + 2, none⟩ = some (bv x.lg x.lc) ∧ W.frozen? ⟨g, i * 4 + 1, none⟩ = false) W4 := ⟨R4.c1, a42, a4f _⟩
          have hSc : (fun W : World => W.cell? ⟨xb, 1, none⟩ = some (.slice (some ⟨g, 0, none⟩) ln cap) ∧ W.cell? ⟨g, i * 4 + 2, none⟩ = some (bv x.lg x.lc) ∧ W.frozen? ⟨g, i * 4 + 1, none⟩ = false) W5 := ⟨R5.c1, a52, a5f _⟩
          have hSd : (fun W : World => W.cell? ⟨xb, 1, none⟩ = some (.slice (some ⟨g, 0, none⟩) ln cap) ∧ W.cell? ⟨g, i * 4 + 2, none⟩ = some (bv x.lg x.lc) ∧ W.frozen? ⟨g, i * 4 + 1, none⟩ = false) W6 := ⟨R6.c1, a62, a6f _⟩
          have hSe : (fun W : World => W.cell? ⟨xb, 1, none⟩ = some (.slice (some ⟨g, 0, none⟩) ln cap) ∧ W.cell? ⟨g, i * 4 + 2, none⟩ = some (bv x.lg x.lc) ∧ W.frozen? ⟨g, i * 4 + 1, none⟩ = false) W7 := ⟨R7.c1, a72, a7f _⟩
          have s1d : wr.drew.cell? ⟨g, i * 4 + 1, none⟩ = some (bv x.og x.oc) := s1
          obtain ⟨a61, _⟩ : W6.cell? ⟨g, i * 4 + 1, none⟩ = some (bv x.og x.oc) ∧ True := ⟨(R6.sect' hx1).2.1, trivial⟩
          go_cut [] from 42 to 71 (fun wx => wx = W7)
          case first =>
            as_aux_lemma =>
              refine wp_region_held_drew (S := (fun W : World => W.cell? ⟨xb, 1, none⟩ = some (.slice (some ⟨g, 0, none⟩) ln cap) ∧ W.cell? ⟨g, i * 4 + 2, none⟩ = some (bv x.lg x.lc) ∧ W.frozen? ⟨g, i * 4 + 1, none⟩ = false)) (by kernel_rfl) (by exact hSa) ?_
              intro hHeld
              refine wpAnyH_take (i := 0) (v := ?_) (by simp only [List.getElem?_toArray, List.getElem?_cons_zero, List.getElem?_cons_succ]; rfl) (by kernel_rfl) (by kernel_rfl) (by kernel_rfl) (by exact fun _ _ _ h => h) (Or.inl ⟨by rfl, ?_⟩) (by assumption) ?_; rotate_left; (focus (intro w hSw; (try dsimp only at hSw); go_simp; try with_reducible rfl)); (try simp only [Act.put, List.setIfInBounds_toArray, List.set_cons_zero, List.set_cons_succ])
              refine wpAnyH_take (i := 1) (v := ?_) (by simp only [List.getElem?_toArray, List.getElem?_cons_zero, List.getElem?_cons_succ]; rfl) (by kernel_rfl) (by kernel_rfl) (by kernel_rfl) (by exact fun _ _ _ h => h) (Or.inl ⟨by rfl, ?_⟩) (by assumption) ?_; rotate_left; (focus (intro w hSw; (try dsimp only at hSw); go_simp; try with_reducible rfl)); (try simp only [Act.put, List.setIfInBounds_toArray, List.set_cons_zero, List.set_cons_succ])
              refine wpAnyH_take (i := 2) (v := ?_) (by simp only [List.getElem?_toArray, List.getElem?_cons_zero, List.getElem?_cons_succ]; rfl) (by kernel_rfl) (by kernel_rfl) (by kernel_rfl) (by exact fun _ _ _ h => h) (Or.inl ⟨by rfl, ?_⟩) (by assumption) ?_; rotate_left; (focus (intro w hSw; (try dsimp only at hSw); go_simp; try with_reducible rfl)); (try simp only [Act.put, List.setIfInBounds_toArray, List.set_cons_zero, List.set_cons_succ])
              refine wpAnyH_take (i := 3) (v := ?_) (by simp only [List.getElem?_toArray, List.getElem?_cons_zero, List.getElem?_cons_succ]; rfl) (by kernel_rfl) (by kernel_rfl) (by kernel_rfl) (by exact fun _ _ _ h => h) (Or.inl ⟨by rfl, ?_⟩) (by assumption) ?_; rotate_left; (focus (intro w hSw; (try dsimp only at hSw); go_simp; try with_reducible rfl)); (try simp only [Act.put, List.setIfInBounds_toArray, List.set_cons_zero, List.set_cons_succ])
              refine wpAnyH_take (i := 4) (v := ?_) (by simp only [List.getElem?_toArray, List.getElem?_cons_zero, List.getElem?_cons_succ]; rfl) (by kernel_rfl) (by kernel_rfl) (by kernel_rfl) (by exact fun _ _ _ h => h) (Or.inl ⟨by rfl, ?_⟩) (by assumption) ?_; rotate_left; (focus (intro w hSw; (try dsimp only at hSw); go_simp; try with_reducible rfl)); (try simp only [Act.put, List.setIfInBounds_toArray, List.set_cons_zero, List.set_cons_succ])
              refine wpAnyH_take (i := 6) (v := ?_) (by simp only [List.getElem?_toArray, List.getElem?_cons_zero, List.getElem?_cons_succ]; rfl) (by kernel_rfl) (by kernel_rfl) (by kernel_rfl) (by exact fun _ _ _ h => h) (Or.inl ⟨by rfl, ?_⟩) (by assumption) ?_; rotate_left; (focus (intro w hSw; (try dsimp only at hSw); go_simp; try with_reducible rfl)); (try simp only [Act.put, List.setIfInBounds_toArray, List.set_cons_zero, List.set_cons_succ])
              refine wpAnyH_take (i := 7) (v := ?_) (by simp only [List.getElem?_toArray, List.getElem?_cons_zero, List.getElem?_cons_succ]; rfl) (by kernel_rfl) (by kernel_rfl) (by kernel_rfl) (by exact fun _ _ _ h => h) (Or.inl ⟨by rfl, ?_⟩) (by assumption) ?_; rotate_left; (focus (intro w hSw; (try dsimp only at hSw); go_simp; try with_reducible rfl)); (try simp only [Act.put, List.setIfInBounds_toArray, List.set_cons_zero, List.set_cons_succ])
              refine wpAnyH_take (i := 8) (v := ?_) (by simp only [List.getElem?_toArray, List.getElem?_cons_zero, List.getElem?_cons_succ]; rfl) (by kernel_rfl) (by kernel_rfl) (by kernel_rfl) (by exact fun _ _ _ h => h) (Or.inl ⟨by rfl, ?_⟩) (by assumption) ?_; rotate_left; (focus (intro w hSw; (try dsimp only at hSw); go_simp; try with_reducible rfl)); (try simp only [Act.put, List.setIfInBounds_toArray, List.set_cons_zero, List.set_cons_succ])
              refine wpAnyH_take (i := 9) (v := ?_) (by simp only [List.getElem?_toArray, List.getElem?_cons_zero, List.getElem?_cons_succ]; rfl) (by kernel_rfl) (by kernel_rfl) (by kernel_rfl) (by exact fun _ _ _ h => h) (Or.inl ⟨by rfl, ?_⟩) (by assumption) ?_; rotate_left; (focus (intro w hSw; (try dsimp only at hSw); go_simp; try with_reducible rfl)); (try simp only [Act.put, List.setIfInBounds_toArray, List.set_cons_zero, List.set_cons_succ])
              refine wpAnyH_take (i := 10) (v := ?_) (by simp only [List.getElem?_toArray, List.getElem?_cons_zero, List.getElem?_cons_succ]; rfl) (by kernel_rfl) (by kernel_rfl) (by kernel_rfl) (by exact fun _ _ _ h => h) (Or.inl ⟨by rfl, ?_⟩) (by assumption) ?_; rotate_left; (focus (intro w hSw; (try dsimp only at hSw); go_simp; try with_reducible rfl)); (try simp only [Act.put, List.setIfInBounds_toArray, List.set_cons_zero, List.set_cons_succ])
              refine wpAnyH_take (i := 11) (v := ?_) (by simp only [List.getElem?_toArray, List.getElem?_cons_zero, List.getElem?_cons_succ]; rfl) (by kernel_rfl) (by kernel_rfl) (by kernel_rfl) (by exact fun _ _ _ h => h) (Or.inl ⟨by rfl, ?_⟩) (by assumption) ?_; rotate_left; (focus (intro w hSw; (try dsimp only at hSw); go_simp; try with_reducible rfl)); (try simp only [Act.put, List.setIfInBounds_toArray, List.set_cons_zero, List.set_cons_succ])
              refine wpAnyH_take (i := 12) (v := ?_) (by simp only [List.getElem?_toArray, List.getElem?_cons_zero, List.getElem?_cons_succ]; rfl) (by kernel_rfl) (by kernel_rfl) (by kernel_rfl) (by exact fun _ _ _ h => h) (Or.inl ⟨by rfl, ?_⟩) (by assumption) ?_; rotate_left; (focus (intro w hSw; (try dsimp only at hSw); go_simp; try with_reducible rfl)); (try simp only [Act.put, List.setIfInBounds_toArray, List.set_cons_zero, List.set_cons_succ])
              refine wpAnyH_take (i := 13) (v := ?_) (by simp only [List.getElem?_toArray, List.getElem?_cons_zero, List.getElem?_cons_succ]; rfl) (by kernel_rfl) (by kernel_rfl) (by kernel_rfl) (by exact fun _ _ _ h => h) (Or.inl ⟨by rfl, ?_⟩) (by assumption) ?_; rotate_left; (focus (intro w hSw; (try dsimp only at hSw); go_simp; try with_reducible rfl)); (try simp only [Act.put, List.setIfInBounds_toArray, List.set_cons_zero, List.set_cons_succ])
              refine wpAnyH_take (i := 14) (v := ?_) (by simp only [List.getElem?_toArray, List.getElem?_cons_zero, List.getElem?_cons_succ]; rfl) (by kernel_rfl) (by kernel_rfl) (by kernel_rfl) (by exact fun _ _ _ h => h) (Or.inl ⟨by rfl, ?_⟩) (by assumption) ?_; rotate_left; (focus (intro w hSw; (try dsimp only at hSw); go_simp; try with_reducible rfl)); (try simp only [Act.put, List.setIfInBounds_toArray, List.set_cons_zero, List.set_cons_succ])
              refine wpAnyH_take (i := 15) (v := ?_) (by simp only [List.getElem?_toArray, List.getElem?_cons_zero, List.getElem?_cons_succ]; rfl) (by kernel_rfl) (by kernel_rfl) (by kernel_rfl) (by exact fun _ _ _ h => h) (Or.inl ⟨by rfl, ?_⟩) (by assumption) ?_; rotate_left; (focus (intro w hSw; (try dsimp only at hSw); go_simp; try with_reducible rfl)); (try simp only [Act.put, List.setIfInBounds_toArray, List.set_cons_zero, List.set_cons_succ])
              refine wpAnyH_take (i := 17) (v := ?_) (by simp only [List.getElem?_toArray, List.getElem?_cons_zero, List.getElem?_cons_succ]; rfl) (by kernel_rfl) (by kernel_rfl) (by kernel_rfl) (by exact fun _ _ _ h => h) (Or.inl ⟨by rfl, ?_⟩) (by assumption) ?_; rotate_left; (focus (intro w hSw; (try dsimp only at hSw); go_simp; try with_reducible rfl)); (try simp only [Act.put, List.setIfInBounds_toArray, List.set_cons_zero, List.set_cons_succ])
              refine wpAnyH_take (i := 18) (v := ?_) (by simp only [List.getElem?_toArray, List.getElem?_cons_zero, List.getElem?_cons_succ]; rfl) (by kernel_rfl) (by kernel_rfl) (by kernel_rfl) (by exact fun _ _ _ h => h) (Or.inl ⟨by rfl, ?_⟩) (by assumption) ?_; rotate_left; (focus (intro w hSw; (try dsimp only at hSw); go_simp; try with_reducible rfl)); (try simp only [Act.put, List.setIfInBounds_toArray, List.set_cons_zero, List.set_cons_succ])
              refine wpAnyH_take (i := 19) (v := ?_) (by simp only [List.getElem?_toArray, List.getElem?_cons_zero, List.getElem?_cons_succ]; rfl) (by kernel_rfl) (by kernel_rfl) (by kernel_rfl) (by exact fun _ _ _ h => h) (Or.inl ⟨by rfl, ?_⟩) (by assumption) ?_; rotate_left; (focus (intro w hSw; (try dsimp only at hSw); go_simp; try with_reducible rfl)); (try simp only [Act.put, List.setIfInBounds_toArray, List.set_cons_zero, List.set_cons_succ])
              refine wpAnyH_take (i := 20) (v := ?_) (by simp only [List.getElem?_toArray, List.getElem?_cons_zero, List.getElem?_cons_succ]; rfl) (by kernel_rfl) (by kernel_rfl) (by kernel_rfl) (by exact fun _ _ _ h => h) (Or.inl ⟨by rfl, ?_⟩) (by assumption) ?_; rotate_left; (focus (intro w hSw; (try dsimp only at hSw); go_simp; try with_reducible rfl)); (try simp only [Act.put, List.setIfInBounds_toArray, List.set_cons_zero, List.set_cons_succ])
              refine wpAnyH_take (i := 21) (v := ?_) (by simp only [List.getElem?_toArray, List.getElem?_cons_zero, List.getElem?_cons_succ]; rfl) (by kernel_rfl) (by kernel_rfl) (by kernel_rfl) (by exact fun _ _ _ h => h) (Or.inl ⟨by rfl, ?_⟩) (by assumption) ?_; rotate_left; (focus (intro w hSw; (try dsimp only at hSw); go_simp; try with_reducible rfl)); (try simp only [Act.put, List.setIfInBounds_toArray, List.set_cons_zero, List.set_cons_succ])
              refine wpAnyH_take (i := 22) (v := ?_) (by simp only [List.getElem?_toArray, List.getElem?_cons_zero, List.getElem?_cons_succ]; rfl) (by kernel_rfl) (by kernel_rfl) (by kernel_rfl) (by exact fun _ _ _ h => h) (Or.inl ⟨by rfl, ?_⟩) (by assumption) ?_; rotate_left; (focus (intro w hSw; (try dsimp only at hSw); go_simp; try with_reducible rfl)); (try simp only [Act.put, List.setIfInBounds_toArray, List.set_cons_zero, List.set_cons_succ])
              refine wpAnyH_take (i := 23) (v := ?_) (by simp only [List.getElem?_toArray, List.getElem?_cons_zero, List.getElem?_cons_succ]; rfl) (by kernel_rfl) (by kernel_rfl) (by kernel_rfl) (by exact fun _ _ _ h => h) (Or.inl ⟨by rfl, ?_⟩) (by assumption) ?_; rotate_left; (focus (intro w hSw; (try dsimp only at hSw); go_simp; try with_reducible rfl)); (try simp only [Act.put, List.setIfInBounds_toArray, List.set_cons_zero, List.set_cons_succ])
              refine wpAnyH_take (i := 25) (v := ?_) (by simp only [List.getElem?_toArray, List.getElem?_cons_zero, List.getElem?_cons_succ]; rfl) (by kernel_rfl) (by kernel_rfl) (by kernel_rfl) (by exact fun _ _ _ h => h) (Or.inl ⟨by rfl, ?_⟩) (by assumption) ?_; rotate_left; (focus (intro w hSw; (try dsimp only at hSw); go_simp; try with_reducible rfl)); (try simp only [Act.put, List.setIfInBounds_toArray, List.set_cons_zero, List.set_cons_succ])
              refine wpAnyH_ready (rs := [5, 24]) (by kernel_rfl) (by simp) ?_
              refine AllReadyH.cons (by simp only [List.getElem?_toArray, List.getElem?_cons_zero, List.getElem?_cons_succ]; rfl) (fun K hK => ?_) ?_
              · go_simp
                refine hK.out _ _ (by first | exact hSa | exact hSb | exact hSc | exact hSd | exact hSe) ?_
                clear hHeld hK
                intro hHeld
                (try simp only [Act.put, List.setIfInBounds_toArray, List.set_cons_zero, List.set_cons_succ])
                refine wpAnyH_ready (rs := [16, 24]) (by kernel_rfl) (by simp) ?_
                refine AllReadyH.cons (by simp only [List.getElem?_toArray, List.getElem?_cons_zero, List.getElem?_cons_succ]; rfl) (fun K hK => ?_) ?_
                · skip
                  refine step_append rfl _ _ rfl rfl rfl rfl hap1 ?_
                  (try simp only [Act.put, List.setIfInBounds_toArray, List.set_cons_zero, List.set_cons_succ])
                  refine hK.out _ _ (by first | exact hSa | exact hSb | exact hSc | exact hSd | exact hSe) ?_
                  clear hHeld hK
                  intro hHeld
                  (try simp only [Act.put, List.setIfInBounds_toArray, List.set_cons_zero, List.set_cons_succ])
                  refine wpAnyH_ready (rs := [24]) (by kernel_rfl) (by simp) ?_
                  refine AllReadyH.cons (by simp only [List.getElem?_toArray, List.getElem?_cons_zero, List.getElem?_cons_succ]; rfl) (fun K hK => ?_) AllReadyH.nil
                  go_simp
                  refine hK.out _ _ (by first | exact hSa | exact hSb | exact hSc | exact hSd | exact hSe) ?_
                  clear hHeld hK
                  intro hHeld
                  (try simp only [Act.put, List.setIfInBounds_toArray, List.set_cons_zero, List.set_cons_succ])
                  refine wpAnyH_take (i := 26) (v := ?_) (by simp only [List.getElem?_toArray, List.getElem?_cons_zero, List.getElem?_cons_succ]; rfl) (by kernel_rfl) (by kernel_rfl) (by kernel_rfl) (by exact fun _ _ _ h => h) (Or.inl ⟨by rfl, ?_⟩) (by assumption) ?_; rotate_left; (focus (intro w hSw; (try dsimp only at hSw); go_simp; try with_reducible rfl)); (try simp only [Act.put, List.setIfInBounds_toArray, List.set_cons_zero, List.set_cons_succ])
                  refine wpAnyH_ready (rs := [27]) (by kernel_rfl) (by simp) ?_
                  refine AllReadyH.cons (by simp only [List.getElem?_toArray, List.getElem?_cons_zero, List.getElem?_cons_succ]; rfl) (fun K hK => ?_) AllReadyH.nil
                  refine step_append rfl _ _ rfl rfl rfl rfl hap2 ?_
                  (try simp only [Act.put, List.setIfInBounds_toArray, List.set_cons_zero, List.set_cons_succ])
                  refine hK.out _ _ (by first | exact hSa | exact hSb | exact hSc | exact hSd | exact hSe) ?_
                  clear hHeld hK
                  intro hHeld
                  (try simp only [Act.put, List.setIfInBounds_toArray, List.set_cons_zero, List.set_cons_succ])
                  refine wpAnyH_take (i := 28) (v := ?_) (by simp only [List.getElem?_toArray, List.getElem?_cons_zero, List.getElem?_cons_succ]; rfl) (by kernel_rfl) (by kernel_rfl) (by kernel_rfl) (by exact fun _ _ _ h => h) (Or.inl ⟨by rfl, ?_⟩) (by assumption) ?_; rotate_left; (focus (intro w hSw; (try dsimp only at hSw); go_simp; try with_reducible rfl)); (try simp only [Act.put, List.setIfInBounds_toArray, List.set_cons_zero, List.set_cons_succ])
                  refine wpAnyH_take (i := 29) (v := ?_) (by simp only [List.getElem?_toArray, List.getElem?_cons_zero, List.getElem?_cons_succ]; rfl) (by kernel_rfl) (by kernel_rfl) (by kernel_rfl) (by exact fun _ _ _ h => h) (Or.inl ⟨by rfl, ?_⟩) (by assumption) ?_; rotate_left; (focus (intro w hSw; (try dsimp only at hSw); go_simp; try with_reducible rfl)); (try simp only [Act.put, List.setIfInBounds_toArray, List.set_cons_zero, List.set_cons_succ])
                  refine wpAnyH_ready (rs := [30]) (by kernel_rfl) (by simp) ?_
                  refine AllReadyH.cons (by simp only [List.getElem?_toArray, List.getElem?_cons_zero, List.getElem?_cons_succ]; rfl) (fun K hK => ?_) AllReadyH.nil
                  go_simp
                  refine hK.out _ _ (by first | exact hSa | exact hSb | exact hSc | exact hSd | exact hSe) ?_
                  clear hHeld hK
                  intro hHeld
                  (try simp only [Act.put, List.setIfInBounds_toArray, List.set_cons_zero, List.set_cons_succ])
                  refine wpAnyH_done (by kernel_rfl) ?_ _
                  go_wp2_with fail
                  go_meet
                  exact rfl
                refine AllReadyH.cons (by simp only [List.getElem?_toArray, List.getElem?_cons_zero, List.getElem?_cons_succ]; rfl) (fun K hK => ?_) AllReadyH.nil
                go_simp
                refine hK.out _ _ (by first | exact hSa | exact hSb | exact hSc | exact hSd | exact hSe) ?_
                clear hHeld hK
                intro hHeld
                (try simp only [Act.put, List.setIfInBounds_toArray, List.set_cons_zero, List.set_cons_succ])
                refine wpAnyH_take (i := 26) (v := ?_) (by simp only [List.getElem?_toArray, List.getElem?_cons_zero, List.getElem?_cons_succ]; rfl) (by kernel_rfl) (by kernel_rfl) (by kernel_rfl) (by exact fun _ _ _ h => h) (Or.inl ⟨by rfl, ?_⟩) (by assumption) ?_; rotate_left; (focus (intro w hSw; (try dsimp only at hSw); go_simp; try with_reducible rfl)); (try simp only [Act.put, List.setIfInBounds_toArray, List.set_cons_zero, List.set_cons_succ])
                refine wpAnyH_ready (rs := [16]) (by kernel_rfl) (by simp) ?_
                refine AllReadyH.cons (by simp only [List.getElem?_toArray, List.getElem?_cons_zero, List.getElem?_cons_succ]; rfl) (fun K hK => ?_) AllReadyH.nil
                refine step_append rfl _ _ rfl rfl rfl rfl hap1 ?_
                (try simp only [Act.put, List.setIfInBounds_toArray, List.set_cons_zero, List.set_cons_succ])
                refine hK.out _ _ (by first | exact hSa | exact hSb | exact hSc | exact hSd | exact hSe) ?_
                clear hHeld hK
                intro hHeld
                (try simp only [Act.put, List.setIfInBounds_toArray, List.set_cons_zero, List.set_cons_succ])
                refine wpAnyH_ready (rs := [27]) (by kernel_rfl) (by simp) ?_
                refine AllReadyH.cons (by simp only [List.getElem?_toArray, List.getElem?_cons_zero, List.getElem?_cons_succ]; rfl) (fun K hK => ?_) AllReadyH.nil
                refine step_append rfl _ _ rfl rfl rfl rfl hap2 ?_
                (try simp only [Act.put, List.setIfInBounds_toArray, List.set_cons_zero, List.set_cons_succ])
                refine hK.out _ _ (by first | exact hSa | exact hSb | exact hSc | exact hSd | exact hSe) ?_
                clear hHeld hK
                intro hHeld
                (try simp only [Act.put, List.setIfInBounds_toArray, List.set_cons_zero, List.set_cons_succ])
                refine wpAnyH_take (i := 28) (v := ?_) (by simp only [List.getElem?_toArray, List.getElem?_cons_zero, List.getElem?_cons_succ]; rfl) (by kernel_rfl) (by kernel_rfl) (by kernel_rfl) (by exact fun _ _ _ h => h) (Or.inl ⟨by rfl, ?_⟩) (by assumption) ?_; rotate_left; (focus (intro w hSw; (try dsimp only at hSw); go_simp; try with_reducible rfl)); (try simp only [Act.put, List.setIfInBounds_toArray, List.set_cons_zero, List.set_cons_succ])
                refine wpAnyH_take (i := 29) (v := ?_) (by simp only [List.getElem?_toArray, List.getElem?_cons_zero, List.getElem?_cons_succ]; rfl) (by kernel_rfl) (by kernel_rfl) (by kernel_rfl) (by exact fun _ _ _ h => h) (Or.inl ⟨by rfl, ?_⟩) (by assumption) ?_; rotate_left; (focus (intro w hSw; (try dsimp only at hSw); go_simp; try with_reducible rfl)); (try simp only [Act.put, List.setIfInBounds_toArray, List.set_cons_zero, List.set_cons_succ])
                refine wpAnyH_ready (rs := [30]) (by kernel_rfl) (by simp) ?_
                refine AllReadyH.cons (by simp only [List.getElem?_toArray, List.getElem?_cons_zero, List.getElem?_cons_succ]; rfl) (fun K hK => ?_) AllReadyH.nil
                go_simp
                refine hK.out _ _ (by first | exact hSa | exact hSb | exact hSc | exact hSd | exact hSe) ?_
                clear hHeld hK
                intro hHeld
                (try simp only [Act.put, List.setIfInBounds_toArray, List.set_cons_zero, List.set_cons_succ])
                refine wpAnyH_done (by kernel_rfl) ?_ _
                go_wp2_with fail
                go_meet
                exact rfl
              refine AllReadyH.cons (by simp only [List.getElem?_toArray, List.getElem?_cons_zero, List.getElem?_cons_succ]; rfl) (fun K hK => ?_) AllReadyH.nil
              go_simp
              refine hK.out _ _ (by first | exact hSa | exact hSb | exact hSc | exact hSd | exact hSe) ?_
              clear hHeld hK
              intro hHeld
              (try simp only [Act.put, List.setIfInBounds_toArray, List.set_cons_zero, List.set_cons_succ])
              refine wpAnyH_take (i := 26) (v := ?_) (by simp only [List.getElem?_toArray, List.getElem?_cons_zero, List.getElem?_cons_succ]; rfl) (by kernel_rfl) (by kernel_rfl) (by kernel_rfl) (by exact fun _ _ _ h => h) (Or.inl ⟨by rfl, ?_⟩) (by assumption) ?_; rotate_left; (focus (intro w hSw; (try dsimp only at hSw); go_simp; try with_reducible rfl)); (try simp only [Act.put, List.setIfInBounds_toArray, List.set_cons_zero, List.set_cons_succ])
              refine wpAnyH_ready (rs := [5]) (by kernel_rfl) (by simp) ?_
              refine AllReadyH.cons (by simp only [List.getElem?_toArray, List.getElem?_cons_zero, List.getElem?_cons_succ]; rfl) (fun K hK => ?_) AllReadyH.nil
              go_simp
              refine hK.out _ _ (by first | exact hSa | exact hSb | exact hSc | exact hSd | exact hSe) ?_
              clear hHeld hK
              intro hHeld
              (try simp only [Act.put, List.setIfInBounds_toArray, List.set_cons_zero, List.set_cons_succ])
              refine wpAnyH_ready (rs := [16]) (by kernel_rfl) (by simp) ?_
              refine AllReadyH.cons (by simp only [List.getElem?_toArray, List.getElem?_cons_zero, List.getElem?_cons_succ]; rfl) (fun K hK => ?_) AllReadyH.nil
              refine step_append rfl _ _ rfl rfl rfl rfl hap1 ?_
              (try simp only [Act.put, List.setIfInBounds_toArray, List.set_cons_zero, List.set_cons_succ])
              refine hK.out _ _ (by first | exact hSa | exact hSb | exact hSc | exact hSd | exact hSe) ?_
              clear hHeld hK
              intro hHeld
              (try simp only [Act.put, List.setIfInBounds_toArray, List.set_cons_zero, List.set_cons_succ])
              refine wpAnyH_ready (rs := [27]) (by kernel_rfl) (by simp) ?_
              refine AllReadyH.cons (by simp only [List.getElem?_toArray, List.getElem?_cons_zero, List.getElem?_cons_succ]; rfl) (fun K hK => ?_) AllReadyH.nil
              refine step_append rfl _ _ rfl rfl rfl rfl hap2 ?_
              (try simp only [Act.put, List.setIfInBounds_toArray, List.set_cons_zero, List.set_cons_succ])
              refine hK.out _ _ (by first | exact hSa | exact hSb | exact hSc | exact hSd | exact hSe) ?_
              clear hHeld hK
              intro hHeld
              (try simp only [Act.put, List.setIfInBounds_toArray, List.set_cons_zero, List.set_cons_succ])
              refine wpAnyH_take (i := 28) (v := ?_) (by simp only [List.getElem?_toArray, List.getElem?_cons_zero, List.getElem?_cons_succ]; rfl) (by kernel_rfl) (by kernel_rfl) (by kernel_rfl) (by exact fun _ _ _ h => h) (Or.inl ⟨by rfl, ?_⟩) (by assumption) ?_; rotate_left; (focus (intro w hSw; (try dsimp only at hSw); go_simp; try with_reducible rfl)); (try simp only [Act.put, List.setIfInBounds_toArray, List.set_cons_zero, List.set_cons_succ])
              refine wpAnyH_take (i := 29) (v := ?_) (by simp only [List.getElem?_toArray, List.getElem?_cons_zero, List.getElem?_cons_succ]; rfl) (by kernel_rfl) (by kernel_rfl) (by kernel_rfl) (by exact fun _ _ _ h => h) (Or.inl ⟨by rfl, ?_⟩) (by assumption) ?_; rotate_left; (focus (intro w hSw; (try dsimp only at hSw); go_simp; try with_reducible rfl)); (try simp only [Act.put, List.setIfInBounds_toArray, List.set_cons_zero, List.set_cons_succ])
              refine wpAnyH_ready (rs := [30]) (by kernel_rfl) (by simp) ?_
              refine AllReadyH.cons (by simp only [List.getElem?_toArray, List.getElem?_cons_zero, List.getElem?_cons_succ]; rfl) (fun K hK => ?_) AllReadyH.nil
              go_simp
              refine hK.out _ _ (by first | exact hSa | exact hSb | exact hSc | exact hSd | exact hSe) ?_
              clear hHeld hK
              intro hHeld
              (try simp only [Act.put, List.setIfInBounds_toArray, List.set_cons_zero, List.set_cons_succ])
              refine wpAnyH_done (by kernel_rfl) ?_ _
              go_wp2_with fail
              go_meet
              exact rfl
          case rest =>
            have hcut := hcut.symm
            subst hcut
            clear hap1 hap2 hto hfrom hSa hSb hSc hSd hSe hcut
            have R7d := R7.kept (Kept.refl [] W7).drew (by simp)
            have q7 := R7.c1
            have z1 : W7.cell? ⟨g, i * 4 + 1, none⟩ = some (bv gl cl) := a71
            have hT1 : (fun W : World => W.cell? ⟨xb, 1, none⟩ = some (.slice (some ⟨g, 0, none⟩) ln cap) ∧ W.cell? ⟨g, i * 4 + 1, none⟩ = some (bv gl cl) ∧ W.frozen? ⟨g, i * 4 + 2, none⟩ = false) W7.drew := ⟨q7, z1, a7f _⟩
            obtain ⟨y1b, y1c, y2b, y2c, y1f, y2f⟩ := R7d.bytes _ (List.mem_of_getElem? hx7)
            obtain ⟨R8, K8⟩ := R7d.stored (i * 4 + 2) (bv gl cl) ((es1.set i { x with og := gl, oc := cl, on := x.last.take fr ++ x.on.drop fr }).set i { x with og := gl, oc := cl, lg := gl, lc := cl, on := x.last.take fr ++ x.on.drop fr, last := x.last.take fr ++ x.on.drop fr }) (by simp) (es_set2 _ _ _ gl cl (x.last.take fr ++ x.on.drop fr) hx7) (fun e he => by
              rcases List.mem_or_eq_of_mem_set he with he | rfl
              · exact R7d.bytes e he
              · exact ⟨y1b, y1c, y1b, y1c, y1f, y1f⟩)
            obtain ⟨W8, hW8⟩ : ∃ W8, W7.drew.setCell ⟨g, i * 4 + 2, none⟩ (bv gl cl) = W8 := ⟨_, rfl⟩
            rw [hW8] at R8 K8
            rw [List.set_set] at R8
            have hx8 : (es1.set i { x with og := gl, oc := cl, lg := gl, lc := cl, on := x.last.take fr ++ x.on.drop fr, last := x.last.take fr ++ x.on.drop fr })[i]? = some { x with og := gl, oc := cl, lg := gl, lc := cl, on := x.last.take fr ++ x.on.drop fr, last := x.last.take fr ++ x.on.drop fr } := by rw [List.getElem?_set_self (by omega)]
            obtain ⟨_, a81, a82, a83, a8f, _⟩ := R8.sect' hx8
            have q8 := R8.c1
            have z8 : W8.cell? ⟨g, i * 4 + 1, none⟩ = some (bv gl cl) := a81
            have hT2 : (fun W : World => W.cell? ⟨xb, 1, none⟩ = some (.slice (some ⟨g, 0, none⟩) ln cap) ∧ W.cell? ⟨g, i * 4 + 1, none⟩ = some (bv gl cl) ∧ W.frozen? ⟨g, i * 4 + 2, none⟩ = false) W8 := ⟨q8, z8, a8f _⟩
            have fz3 := a8f (i * 4 + 3)
            obtain ⟨R9, K9⟩ := R8.stored (i * 4 + 3) (.bool false) ((es1.set i { x with og := gl, oc := cl, lg := gl, lc := cl, on := x.last.take fr ++ x.on.drop fr, last := x.last.take fr ++ x.on.drop fr }).set i { x with og := gl, oc := cl, lg := gl, lc := cl, on := x.last.take fr ++ x.on.drop fr, last := x.last.take fr ++ x.on.drop fr, d := false }) (by simp) (es_set3 _ _ _ false hx8) (fun e he => by
              rcases List.mem_or_eq_of_mem_set he with he | rfl
              · exact R8.bytes e he
              · have := R8.bytes _ (List.mem_of_getElem? hx8)
                exact this)
            rw [List.set_set] at R9
            have hnx : CrashedTo picks es (es1.set i { x with og := gl, oc := cl, lg := gl, lc := cl, on := x.last.take fr ++ x.on.drop fr, last := x.last.take fr ++ x.on.drop fr, d := false }) (i + 1) := Cr.next hx (by
              rw [hc]
              exact ⟨rfl, rfl, fun _ => ⟨hte.symm, hte.symm⟩, fun hh => by rw [hd] at hh; cases hh⟩)
            have KK : Kept (xb :: vb (.slice (some ⟨g, 0, none⟩) ln cap)) w (W8.setCell ⟨g, i * 4 + 3, none⟩ (.bool false)) := ((((K.trans (K6.mono (by simp))).trans (K7.mono (by simp [vb, Value.ownBlock]))).drew).trans (K8.mono (by simp [vb, Value.ownBlock]))).trans (K9.mono (by simp [vb, Value.ownBlock]))
            have hst' : ((cnt es (i + 1) : Nat) : Int) = (c : Int) + 1 := by rw [hst]; rfl
            clear R R4 R5 R6 R7 R7d R8 K K4 K5 K6 K7 K8 K9 Cr hbl hown4 ho5 ho6 hg5 hg6 b1 b2 hlcell hocell
            as_aux_lemma =>
              go_wp2_with fail
              refine wp_region_held_drew (S := (fun W : World => W.cell? ⟨xb, 1, none⟩ = some (.slice (some ⟨g, 0, none⟩) ln cap) ∧ W.cell? ⟨g, i * 4 + 1, none⟩ = some (bv gl cl) ∧ W.frozen? ⟨g, i * 4 + 2, none⟩ = false)) (by kernel_rfl) (by first | exact hT1 | exact hT2) ?_
              intro hHeld
              first | (refine wpAnyH_take (i := 0) (v := ?_) (by simp only [List.getElem?_toArray, List.getElem?_cons_zero, List.getElem?_cons_succ]; rfl) (by kernel_rfl) (by kernel_rfl) (by kernel_rfl) (by exact fun _ _ _ h => h) (Or.inl ⟨by rfl, ?_⟩) (by assumption) ?_; rotate_left; (focus (intro w hSw; (try dsimp only at hSw); go_simp; try with_reducible rfl)); simp only [Act.put, List.setIfInBounds_toArray, List.set_cons_zero, List.set_cons_succ, hW8]) | (refine wpAnyH_take (i := 0) (v := undef) (by simp only [List.getElem?_toArray, List.getElem?_cons_zero, List.getElem?_cons_succ]; rfl) (by kernel_rfl) (by kernel_rfl) (by kernel_rfl) (by exact fun _ _ _ h => h) (Or.inr ⟨by rfl, rfl⟩) (by assumption) ?_; simp only [Act.put, List.setIfInBounds_toArray, List.set_cons_zero, List.set_cons_succ, hW8]) | fail
              first | (refine wpAnyH_take (i := 1) (v := ?_) (by simp only [List.getElem?_toArray, List.getElem?_cons_zero, List.getElem?_cons_succ]; rfl) (by kernel_rfl) (by kernel_rfl) (by kernel_rfl) (by exact fun _ _ _ h => h) (Or.inl ⟨by rfl, ?_⟩) (by assumption) ?_; rotate_left; (focus (intro w hSw; (try dsimp only at hSw); go_simp; try with_reducible rfl)); simp only [Act.put, List.setIfInBounds_toArray, List.set_cons_zero, List.set_cons_succ, hW8]) | (refine wpAnyH_take (i := 1) (v := undef) (by simp only [List.getElem?_toArray, List.getElem?_cons_zero, List.getElem?_cons_succ]; rfl) (by kernel_rfl) (by kernel_rfl) (by kernel_rfl) (by exact fun _ _ _ h => h) (Or.inr ⟨by rfl, rfl⟩) (by assumption) ?_; simp only [Act.put, List.setIfInBounds_toArray, List.set_cons_zero, List.set_cons_succ, hW8]) | fail
              first | (refine wpAnyH_take (i := 2) (v := ?_) (by simp only [List.getElem?_toArray, List.getElem?_cons_zero, List.getElem?_cons_succ]; rfl) (by kernel_rfl) (by kernel_rfl) (by kernel_rfl) (by exact fun _ _ _ h => h) (Or.inl ⟨by rfl, ?_⟩) (by assumption) ?_; rotate_left; (focus (intro w hSw; (try dsimp only at hSw); go_simp; try with_reducible rfl)); simp only [Act.put, List.setIfInBounds_toArray, List.set_cons_zero, List.set_cons_succ, hW8]) | (refine wpAnyH_take (i := 2) (v := undef) (by simp only [List.getElem?_toArray, List.getElem?_cons_zero, List.getElem?_cons_succ]; rfl) (by kernel_rfl) (by kernel_rfl) (by kernel_rfl) (by exact fun _ _ _ h => h) (Or.inr ⟨by rfl, rfl⟩) (by assumption) ?_; simp only [Act.put, List.setIfInBounds_toArray, List.set_cons_zero, List.set_cons_succ, hW8]) | fail
              first | (refine wpAnyH_take (i := 3) (v := ?_) (by simp only [List.getElem?_toArray, List.getElem?_cons_zero, List.getElem?_cons_succ]; rfl) (by kernel_rfl) (by kernel_rfl) (by kernel_rfl) (by exact fun _ _ _ h => h) (Or.inl ⟨by rfl, ?_⟩) (by assumption) ?_; rotate_left; (focus (intro w hSw; (try dsimp only at hSw); go_simp; try with_reducible rfl)); simp only [Act.put, List.setIfInBounds_toArray, List.set_cons_zero, List.set_cons_succ, hW8]) | (refine wpAnyH_take (i := 3) (v := undef) (by simp only [List.getElem?_toArray, List.getElem?_cons_zero, List.getElem?_cons_succ]; rfl) (by kernel_rfl) (by kernel_rfl) (by kernel_rfl) (by exact fun _ _ _ h => h) (Or.inr ⟨by rfl, rfl⟩) (by assumption) ?_; simp only [Act.put, List.setIfInBounds_toArray, List.set_cons_zero, List.set_cons_succ, hW8]) | fail
              first | (refine wpAnyH_take (i := 4) (v := ?_) (by simp only [List.getElem?_toArray, List.getElem?_cons_zero, List.getElem?_cons_succ]; rfl) (by kernel_rfl) (by kernel_rfl) (by kernel_rfl) (by exact fun _ _ _ h => h) (Or.inl ⟨by rfl, ?_⟩) (by assumption) ?_; rotate_left; (focus (intro w hSw; (try dsimp only at hSw); go_simp; try with_reducible rfl)); simp only [Act.put, List.setIfInBounds_toArray, List.set_cons_zero, List.set_cons_succ, hW8]) | (refine wpAnyH_take (i := 4) (v := undef) (by simp only [List.getElem?_toArray, List.getElem?_cons_zero, List.getElem?_cons_succ]; rfl) (by kernel_rfl) (by kernel_rfl) (by kernel_rfl) (by exact fun _ _ _ h => h) (Or.inr ⟨by rfl, rfl⟩) (by assumption) ?_; simp only [Act.put, List.setIfInBounds_toArray, List.set_cons_zero, List.set_cons_succ, hW8]) | fail
              first | (refine wpAnyH_take (i := 5) (v := ?_) (by simp only [List.getElem?_toArray, List.getElem?_cons_zero, List.getElem?_cons_succ]; rfl) (by kernel_rfl) (by kernel_rfl) (by kernel_rfl) (by exact fun _ _ _ h => h) (Or.inl ⟨by rfl, ?_⟩) (by assumption) ?_; rotate_left; (focus (intro w hSw; (try dsimp only at hSw); go_simp; try with_reducible rfl)); simp only [Act.put, List.setIfInBounds_toArray, List.set_cons_zero, List.set_cons_succ, hW8]) | (refine wpAnyH_take (i := 5) (v := undef) (by simp only [List.getElem?_toArray, List.getElem?_cons_zero, List.getElem?_cons_succ]; rfl) (by kernel_rfl) (by kernel_rfl) (by kernel_rfl) (by exact fun _ _ _ h => h) (Or.inr ⟨by rfl, rfl⟩) (by assumption) ?_; simp only [Act.put, List.setIfInBounds_toArray, List.set_cons_zero, List.set_cons_succ, hW8]) | fail
              first | (refine wpAnyH_take (i := 6) (v := ?_) (by simp only [List.getElem?_toArray, List.getElem?_cons_zero, List.getElem?_cons_succ]; rfl) (by kernel_rfl) (by kernel_rfl) (by kernel_rfl) (by exact fun _ _ _ h => h) (Or.inl ⟨by rfl, ?_⟩) (by assumption) ?_; rotate_left; (focus (intro w hSw; (try dsimp only at hSw); go_simp; try with_reducible rfl)); simp only [Act.put, List.setIfInBounds_toArray, List.set_cons_zero, List.set_cons_succ, hW8]) | (refine wpAnyH_take (i := 6) (v := undef) (by simp only [List.getElem?_toArray, List.getElem?_cons_zero, List.getElem?_cons_succ]; rfl) (by kernel_rfl) (by kernel_rfl) (by kernel_rfl) (by exact fun _ _ _ h => h) (Or.inr ⟨by rfl, rfl⟩) (by assumption) ?_; simp only [Act.put, List.setIfInBounds_toArray, List.set_cons_zero, List.set_cons_succ, hW8]) | fail
              first | (refine wpAnyH_take (i := 7) (v := ?_) (by simp only [List.getElem?_toArray, List.getElem?_cons_zero, List.getElem?_cons_succ]; rfl) (by kernel_rfl) (by kernel_rfl) (by kernel_rfl) (by exact fun _ _ _ h => h) (Or.inl ⟨by rfl, ?_⟩) (by assumption) ?_; rotate_left; (focus (intro w hSw; (try dsimp only at hSw); go_simp; try with_reducible rfl)); simp only [Act.put, List.setIfInBounds_toArray, List.set_cons_zero, List.set_cons_succ, hW8]) | (refine wpAnyH_take (i := 7) (v := undef) (by simp only [List.getElem?_toArray, List.getElem?_cons_zero, List.getElem?_cons_succ]; rfl) (by kernel_rfl) (by kernel_rfl) (by kernel_rfl) (by exact fun _ _ _ h => h) (Or.inr ⟨by rfl, rfl⟩) (by assumption) ?_; simp only [Act.put, List.setIfInBounds_toArray, List.set_cons_zero, List.set_cons_succ, hW8]) | fail
              first | (refine wpAnyH_take (i := 8) (v := ?_) (by simp only [List.getElem?_toArray, List.getElem?_cons_zero, List.getElem?_cons_succ]; rfl) (by kernel_rfl) (by kernel_rfl) (by kernel_rfl) (by exact fun _ _ _ h => h) (Or.inl ⟨by rfl, ?_⟩) (by assumption) ?_; rotate_left; (focus (intro w hSw; (try dsimp only at hSw); go_simp; try with_reducible rfl)); simp only [Act.put, List.setIfInBounds_toArray, List.set_cons_zero, List.set_cons_succ, hW8]) | (refine wpAnyH_take (i := 8) (v := undef) (by simp only [List.getElem?_toArray, List.getElem?_cons_zero, List.getElem?_cons_succ]; rfl) (by kernel_rfl) (by kernel_rfl) (by kernel_rfl) (by exact fun _ _ _ h => h) (Or.inr ⟨by rfl, rfl⟩) (by assumption) ?_; simp only [Act.put, List.setIfInBounds_toArray, List.set_cons_zero, List.set_cons_succ, hW8]) | fail
              first | (refine wpAnyH_take (i := 9) (v := ?_) (by simp only [List.getElem?_toArray, List.getElem?_cons_zero, List.getElem?_cons_succ]; rfl) (by kernel_rfl) (by kernel_rfl) (by kernel_rfl) (by exact fun _ _ _ h => h) (Or.inl ⟨by rfl, ?_⟩) (by assumption) ?_; rotate_left; (focus (intro w hSw; (try dsimp only at hSw); go_simp; try with_reducible rfl)); simp only [Act.put, List.setIfInBounds_toArray, List.set_cons_zero, List.set_cons_succ, hW8]) | (refine wpAnyH_take (i := 9) (v := undef) (by simp only [List.getElem?_toArray, List.getElem?_cons_zero, List.getElem?_cons_succ]; rfl) (by kernel_rfl) (by kernel_rfl) (by kernel_rfl) (by exact fun _ _ _ h => h) (Or.inr ⟨by rfl, rfl⟩) (by assumption) ?_; simp only [Act.put, List.setIfInBounds_toArray, List.set_cons_zero, List.set_cons_succ, hW8]) | fail
              first | (refine wpAnyH_take (i := 10) (v := ?_) (by simp only [List.getElem?_toArray, List.getElem?_cons_zero, List.getElem?_cons_succ]; rfl) (by kernel_rfl) (by kernel_rfl) (by kernel_rfl) (by exact fun _ _ _ h => h) (Or.inl ⟨by rfl, ?_⟩) (by assumption) ?_; rotate_left; (focus (intro w hSw; (try dsimp only at hSw); go_simp; try with_reducible rfl)); simp only [Act.put, List.setIfInBounds_toArray, List.set_cons_zero, List.set_cons_succ, hW8]) | (refine wpAnyH_take (i := 10) (v := undef) (by simp only [List.getElem?_toArray, List.getElem?_cons_zero, List.getElem?_cons_succ]; rfl) (by kernel_rfl) (by kernel_rfl) (by kernel_rfl) (by exact fun _ _ _ h => h) (Or.inr ⟨by rfl, rfl⟩) (by assumption) ?_; simp only [Act.put, List.setIfInBounds_toArray, List.set_cons_zero, List.set_cons_succ, hW8]) | fail
              first | (refine wpAnyH_take (i := 11) (v := ?_) (by simp only [List.getElem?_toArray, List.getElem?_cons_zero, List.getElem?_cons_succ]; rfl) (by kernel_rfl) (by kernel_rfl) (by kernel_rfl) (by exact fun _ _ _ h => h) (Or.inl ⟨by rfl, ?_⟩) (by assumption) ?_; rotate_left; (focus (intro w hSw; (try dsimp only at hSw); go_simp; try with_reducible rfl)); simp only [Act.put, List.setIfInBounds_toArray, List.set_cons_zero, List.set_cons_succ, hW8]) | (refine wpAnyH_take (i := 11) (v := undef) (by simp only [List.getElem?_toArray, List.getElem?_cons_zero, List.getElem?_cons_succ]; rfl) (by kernel_rfl) (by kernel_rfl) (by kernel_rfl) (by exact fun _ _ _ h => h) (Or.inr ⟨by rfl, rfl⟩) (by assumption) ?_; simp only [Act.put, List.setIfInBounds_toArray, List.set_cons_zero, List.set_cons_succ, hW8]) | fail
              first | (refine wpAnyH_take (i := 12) (v := ?_) (by simp only [List.getElem?_toArray, List.getElem?_cons_zero, List.getElem?_cons_succ]; rfl) (by kernel_rfl) (by kernel_rfl) (by kernel_rfl) (by exact fun _ _ _ h => h) (Or.inl ⟨by rfl, ?_⟩) (by assumption) ?_; rotate_left; (focus (intro w hSw; (try dsimp only at hSw); go_simp; try with_reducible rfl)); simp only [Act.put, List.setIfInBounds_toArray, List.set_cons_zero, List.set_cons_succ, hW8]) | (refine wpAnyH_take (i := 12) (v := undef) (by simp only [List.getElem?_toArray, List.getElem?_cons_zero, List.getElem?_cons_succ]; rfl) (by kernel_rfl) (by kernel_rfl) (by kernel_rfl) (by exact fun _ _ _ h => h) (Or.inr ⟨by rfl, rfl⟩) (by assumption) ?_; simp only [Act.put, List.setIfInBounds_toArray, List.set_cons_zero, List.set_cons_succ, hW8]) | fail
              first | (refine wpAnyH_take (i := 13) (v := ?_) (by simp only [List.getElem?_toArray, List.getElem?_cons_zero, List.getElem?_cons_succ]; rfl) (by kernel_rfl) (by kernel_rfl) (by kernel_rfl) (by exact fun _ _ _ h => h) (Or.inl ⟨by rfl, ?_⟩) (by assumption) ?_; rotate_left; (focus (intro w hSw; (try dsimp only at hSw); go_simp; try with_reducible rfl)); simp only [Act.put, List.setIfInBounds_toArray, List.set_cons_zero, List.set_cons_succ, hW8]) | (refine wpAnyH_take (i := 13) (v := undef) (by simp only [List.getElem?_toArray, List.getElem?_cons_zero, List.getElem?_cons_succ]; rfl) (by kernel_rfl) (by kernel_rfl) (by kernel_rfl) (by exact fun _ _ _ h => h) (Or.inr ⟨by rfl, rfl⟩) (by assumption) ?_; simp only [Act.put, List.setIfInBounds_toArray, List.set_cons_zero, List.set_cons_succ, hW8]) | fail
              first | (refine wpAnyH_take (i := 14) (v := ?_) (by simp only [List.getElem?_toArray, List.getElem?_cons_zero, List.getElem?_cons_succ]; rfl) (by kernel_rfl) (by kernel_rfl) (by kernel_rfl) (by exact fun _ _ _ h => h) (Or.inl ⟨by rfl, ?_⟩) (by assumption) ?_; rotate_left; (focus (intro w hSw; (try dsimp only at hSw); go_simp; try with_reducible rfl)); simp only [Act.put, List.setIfInBounds_toArray, List.set_cons_zero, List.set_cons_succ, hW8]) | (refine wpAnyH_take (i := 14) (v := undef) (by simp only [List.getElem?_toArray, List.getElem?_cons_zero, List.getElem?_cons_succ]; rfl) (by kernel_rfl) (by kernel_rfl) (by kernel_rfl) (by exact fun _ _ _ h => h) (Or.inr ⟨by rfl, rfl⟩) (by assumption) ?_; simp only [Act.put, List.setIfInBounds_toArray, List.set_cons_zero, List.set_cons_succ, hW8]) | fail
              refine wpAnyH_ready (rs := [15]) (by kernel_rfl) (by simp) ?_; refine AllReadyH.cons (by simp only [List.getElem?_toArray, List.getElem?_cons_zero, List.getElem?_cons_succ]; rfl) (fun K hK => ?_) AllReadyH.nil; go_simp; refine hK.out _ _ (by first | exact hT1 | exact hT2) ?_; clear hHeld hK; intro hHeld; (try simp only [Act.put, List.setIfInBounds_toArray, List.set_cons_zero, List.set_cons_succ, hW8])
              refine wpAnyH_done (by kernel_rfl) ?_ _
              clear hT1 hT2 hHeld
              go_wp2_with fail
              exact ⟨⟨i + 1, _, by omega, by simp, by rw [hst'], R9, hnx, KK⟩, by simp [Go.RowKit.intOf]; omega⟩
    · obtain rfl : i = es.length := by omega
      obtain ⟨r1, k1⟩ := R.set_dead false
      obtain ⟨r2, k2⟩ := r1.set_left 0
      have f4 := R.fz 4
      have f3 := r1.fz 3
      have c4 := R.c4
      have c3 := r1.c3
      rw [hle] at hlt ⊢
      as_aux_lemma =>
        go_wp2_with fail
        go_ret
        exact ⟨es1, rfl, r2, by rw [← hle]; exact Cr, (K.trans (k1.mono (by simp))).trans (k2.mono (by simp))⟩
end
end Go.Proofs.Ytcnejanckolklaa
