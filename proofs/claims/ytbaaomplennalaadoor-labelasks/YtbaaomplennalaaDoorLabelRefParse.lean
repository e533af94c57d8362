/-
  THE DOCUMENT's OWN Parse: the walk.
-/
import Derived.Test.YtbaaomplennalaaDoorLabelRefRun
import Derived.Deep.RegionWith
namespace Go.Proofs.YtbaaomplennalaaDoor
open Go.RowKit
set_option linter.unusedSimpArgs false

/-- The numbers' bounds while they are read. -/
structure PB (p : PS) : Prop where
  k3 : p.k ≤ 3
  d3 : p.d ≤ 3
  pos : ∀ j, 0 ≤ p.v j
  big : ∀ j, p.v j < 1000
  d0 : p.d = 0 → p.v p.k = 0
  d1 : p.d = 1 → p.v p.k < 10
  d2 : p.d = 2 → p.v p.k < 100
  far : ∀ j, p.k < j → p.v j = 0
theorem PB.start : PB startP := ⟨by simp [startP], by simp [startP], fun _ => by simp [startP], fun _ => by simp [startP], fun _ => rfl, fun h => by simp [startP] at h, fun h => by simp [startP] at h, fun _ _ => rfl⟩
theorem PB.dot {p : PS} (h : PB p) (hk : p.k < 3) : PB ⟨p.k + 1, 0, p.v⟩ :=
  ⟨hk, Nat.zero_le _, h.pos, h.big, fun _ => h.far _ (Nat.lt_succ_self _), fun e => by simp at e, fun e => by simp at e, fun j hj => h.far j (by simp at hj; omega)⟩
theorem PB.small {p : PS} (h : PB p) (hd : p.d < 3) : 0 ≤ p.v p.k ∧ p.v p.k < 100 := by
  have := h.d0; have := h.d1; have := h.d2; have := h.pos p.k
  have : p.d = 0 ∨ p.d = 1 ∨ p.d = 2 := by omega
  rcases this with e | e | e
  · have := h.d0 e; omega
  · have := h.d1 e; omega
  · have := h.d2 e; omega
theorem PB.digit {p : PS} (h : PB p) (hd : p.d < 3) (x : Int) (h0 : 0 ≤ x) (h1 : x ≤ 9) : PB ⟨p.k, p.d + 1, upd p.v p.k (10 * p.v p.k + x)⟩ := by
  have hs := h.small hd
  refine ⟨h.k3, hd, fun j => ?_, fun j => ?_, fun e => by simp at e, fun e => ?_, fun e => ?_, fun j hj => ?_⟩
  · simp only [upd]; split
    · omega
    · exact h.pos j
  · simp only [upd]; split
    · omega
    · exact h.big j
  · simp only [upd_at]; simp at e; have := h.d0 e; omega
  · simp only [upd_at]; simp at e; have := h.d1 e; omega
  · simp only [upd]; simp at hj; rw [if_neg (by omega)]; exact h.far j hj

/-- The document's Parse under way. -/
structure RSt (w : World) (nb : Nat) (v : Nat → Int) (W : World) : Prop where
  bel : Below w.heap.size w W
  size : nb < W.heap.size
  far : w.heap.size < nb
  box : Boxed W w.heap.size zeroL
  fre : Free W w.heap.size
  num : ∀ j : Nat, j < 4 → W.cell? ⟨nb, j, none⟩ = some (.int .i64 (v j))
  nfr : ∀ j : Nat, j < 4 → W.frozen? ⟨nb, j, none⟩ = false
theorem RSt.keep {w W W' : World} {nb : Nat} {v : Nat → Int} (h : RSt w nb v W) (hb : Below W.heap.size W W') : RSt w nb v W' where
  bel := Below.then h.bel hb
  size := Nat.lt_of_lt_of_le h.size hb.size
  far := h.far
  box := h.box.keep hb
  fre := h.fre.keep (by have := h.size; have := h.far; omega) hb
  num j hj := (hb.cell (p := ⟨nb, j, none⟩) h.size).trans (h.num j hj)
  nfr j hj := (hb.frozen (p := ⟨nb, j, none⟩) h.size).trans (h.nfr j hj)
theorem RSt.put {w W : World} {nb : Nat} {v : Nat → Int} (h : RSt w nb v W) (k : Nat) (x : Int) (hk : k < 4) : RSt w nb (upd v k x) (W.setCell ⟨nb, k, none⟩ (.int .i64 x)) where
  bel := h.bel.setCell (p := ⟨nb, k, none⟩) (by have := h.far; show w.heap.size ≤ nb; omega) _
  size := by simpa using h.size
  far := h.far
  box := by
    have hf := h.far
    obtain ⟨a, b, c, d⟩ := h.box
    have hne : nb ≠ w.heap.size := by omega
    refine ⟨?_, ?_, ?_, ?_⟩ <;> simp [World.cell?_setCell_far, *]
  fre := by
    obtain ⟨a, b, c, d⟩ := h.fre
    refine ⟨?_, ?_, ?_, ?_⟩ <;> rw [World.frozen?_setCell] <;> assumption
  num j hj := by
    by_cases e : j = k
    · subst e
      rw [World.cell?_setCell_same _ _ _ (h.num j hj), upd_at]
    · rw [World.cell?_setCell_other _ _ _ _ (by intro c; apply e; cases c; rfl), h.num j hj]
      simp [upd, e]
  nfr j hj := by rw [World.frozen?_setCell]; exact h.nfr j hj

theorem run_take (l : List UInt8) (n : Nat) (h : n < l.length) (p : PS) (hr : runP (l.take n) startP = some p) : runP (l.take (n + 1)) startP = stepP p l[n].toNat := by
  have e : l.take (n + 1) = l.take n ++ [l[n]] := by rw [List.take_add_one, List.getElem?_eq_getElem h]; rfl
  rw [e, run_append, hr]
  show (match stepP p l[n].toNat with | some p' => runP [] p' | none => none) = _
  cases stepP p l[n].toNat <;> rfl
theorem run_none (l : List UInt8) (n : Nat) (h : runP (l.take n) startP = none) : runP l startP = none := by
  rw [← List.take_append_drop n l, run_append, h]; rfl
theorem byte_at (s : ByteArray) (i : Nat) (h : i < s.size) : s.data.toList[i]'(by simpa using h) = s[i] := rfl
def rparseV (s : ByteArray) : Lab := (rparseL s).getD zeroL
def rparseE (s : ByteArray) : Int := match rparseL s with | some _ => 0 | none => 1

set_option maxRecDepth 4000 in
set_option maxHeartbeats 4000000 in
theorem rparse_any (s : ByteArray) (hs : s.size ≤ 100) (w : World) :
    Calls Tryd.prog 11 #[.string s] w fun e w' => e = .returned (.tuple #[(rparseV s).v, .int .i64 (rparseE s)]) ∧ Below w.heap.size w w' := by
  have st0 : RSt w (w.heap.size + 1) (fun _ => 0) ((w.alloc (.cells #[.int .i64 0, .int .i64 0, .int .i64 0, .int .i64 0] 23)).alloc (.cells #[.int .i64 0, .int .i64 0, .int .i64 0, .int .i64 0] 44)) := by
    have hb := alloc_below (w.alloc (.cells #[.int .i64 0, .int .i64 0, .int .i64 0, .int .i64 0] 23)) (.cells #[.int .i64 0, .int .i64 0, .int .i64 0, .int .i64 0] 44)
    have hn : w.heap.size + 1 = (w.alloc (.cells #[.int .i64 0, .int .i64 0, .int .i64 0, .int .i64 0] 23)).heap.size := by simp
    refine ⟨below2 _ _ _, by simp, by omega, (boxed_alloc w zeroL).keep hb, (free_alloc w _ _).keep (by simp) hb, fun j hj => ?_, fun j hj => ?_⟩
    · rw [hn, World.cell?_alloc_at _ _ _ _ rfl]
      have : j = 0 ∨ j = 1 ∨ j = 2 ∨ j = 3 := by omega
      rcases this with rfl | rfl | rfl | rfl <;> rfl
    · rw [hn]; exact World.frozen?_alloc_new _ _ _ _
  go_enter Tryd.func11, Tryd.ntmps11
  go_wp2_with fail
  generalize (w.alloc (.cells #[.int .i64 0, .int .i64 0, .int .i64 0, .int .i64 0] 23)).alloc (.cells #[.int .i64 0, .int .i64 0, .int .i64 0, .int .i64 0] 44) = W0 at *
  generalize w.heap.size + 1 = nb at *
  go_loopw [5, 6, 7] (fun a b c wr => ∃ (p : PS) (kk dd q : Int), a = .int .i64 kk ∧ b = .int .i64 dd ∧ c = .int .i64 q ∧ (kk = p.k ∧ dd = p.d) ∧ 0 ≤ q ∧ q ≤ s.size ∧ PB p ∧ RSt w nb p.v wr ∧ runP (s.data.toList.take q.toNat) startP = some p) (fun _ _ c _ => s.size - (Go.RowKit.intOf c).toNat)
  case atStart => exact ⟨startP, 0, 0, 0, rfl, rfl, rfl, ⟨rfl, rfl⟩, by omega, by omega, PB.start, st0, rfl⟩
  case round =>
    obtain ⟨p, kk, dd, q, rfl, rfl, rfl, hkd, hq0, hq1, hp, st, hr⟩ := hrel
    have HK : Hid (kk = p.k ∧ dd = p.d) := hkd
    have hk0 : 0 ≤ kk := by omega
    have hk3 : kk ≤ 3 := by have := hp.k3; omega
    have hd0 : 0 ≤ dd := by omega
    have hd3 : dd ≤ 3 := by have := hp.d3; omega
    clear hkd
    have HR : Hid (runP (s.data.toList.take q.toNat) startP = some p) := hr
    clear hr
    by_cases hlt : q < s.size
    · have hqs : q.toNat < s.size := by omega
      have hrn := run_take s.data.toList q.toNat (by simpa using hqs) p HR.out
      rw [byte_at s q.toNat hqs] at hrn
      obtain ⟨bn, hbn⟩ : ∃ bn : Nat, (s[q.toNat]'hqs).toNat = bn := ⟨_, rfl⟩
      rw [hbn] at hrn
      obtain ⟨bb, hbb⟩ : ∃ bb : Int, ((s[q.toNat]'hqs).toNat : Int) = bb := ⟨_, rfl⟩
      have HB : Hid (bb = bn) := by rw [← hbb, hbn]; exact rfl
      clear hbn
      by_cases h46 : bb = 46
      · subst h46
        by_cases hk : kk < 3
        · have hyes : stepP p bn = some ⟨p.k + 1, 0, p.v⟩ := by
            have := HB.out; have := HK.out
            unfold stepP
            rw [if_pos (by omega)]
          rw [hyes] at hrn
          have hpb : PB ⟨p.k + 1, 0, p.v⟩ := hp.dot (by have := HK.out; omega)
          clear hyes
          go_wp2_with fail
          refine ⟨⟨⟨p.k + 1, 0, p.v⟩, kk + 1, 0, q + 1, rfl, rfl, rfl, ?_, by omega, by omega, hpb, st, ?_⟩, ?_⟩
          · have := HK.out
            simp only
            omega
          · rw [show (q + 1).toNat = q.toNat + 1 by omega]; exact hrn
          · simp [Go.RowKit.intOf]; omega
        · have hk' : decide (kk < 3) = false := by simpa using hk
          have hno : stepP p bn = none := by
            unfold stepP
            rw [if_neg (by have := HB.out; have := HK.out; omega), if_neg (by have := HB.out; omega)]
          rw [hno] at hrn
          have e1 : rparseL s = none := by unfold rparseL; rw [run_none _ _ hrn]
          have e2 : rparseV s = zeroL := by unfold rparseV; rw [e1]; rfl
          have e3 : rparseE s = 1 := by unfold rparseE; rw [e1]
          have hz := st.box
          have hfr := st.fre
          have hB := st.bel
          clear st hrn hno e1 hp HK HR HB 
          go_wp2_with fail
          exact bodyPost_ret (v := .tuple #[zeroL.v, .int .i64 1]) (by have hp := put4_at (l' := zeroL) hz; simp only [put4, zeroL] at hp; simp [results, Tryd.results11, go_sem, hp, zeroL]) rfl ⟨by first | rfl | rw [e2, e3], put4_below (l := zeroL) hB (Nat.le_refl _)⟩
      · have h46' : (bb == 46) = false := by simpa using h46
        by_cases h48 : 48 ≤ bb
        · by_cases h57 : bb ≤ 57
          · by_cases hd : dd < 3
            · have hyes : stepP p bn = some ⟨p.k, p.d + 1, upd p.v p.k (10 * p.v p.k + ((bn : Int) - 48))⟩ := by
                have := HB.out; have := HK.out
                unfold stepP
                rw [if_neg (by omega), if_pos (by omega)]
              rw [hyes] at hrn
              have hsm := hp.small (by have := HK.out; omega)
              have hpb := hp.digit (by have := HK.out; omega) ((bn : Int) - 48) (by have := HB.out; omega) (by have := HB.out; omega)
              have hc := st.num kk.toNat (by omega)
              have hf := st.nfr kk.toNat (by omega)
              have hkk : kk.toNat = p.k := by have := HK.out; omega
              rw [hkk] at hc hf
              have sp := st.put p.k (10 * p.v p.k + ((bn : Int) - 48)) (by have := hp.k3; omega)
              rw [show (bn : Int) - 48 = bb - 48 by have := HB.out; omega] at sp hpb hrn
              obtain ⟨x, hx⟩ : ∃ x, x = p.v p.k := ⟨_, rfl⟩
              rw [← hx] at sp hpb hrn hc hsm
              have w1 : IntKind.u8.wrap (bb - 48) = bb - 48 := by rw [IntKind.wrap_u8]; omega
              have w2 : IntKind.i64.wrap (10 * x) = 10 * x := by rw [IntKind.wrap_i64]; omega
              have w3 : IntKind.i64.wrap (10 * x + (bb - 48)) = 10 * x + (bb - 48) := by rw [IntKind.wrap_i64]; omega
              rw [← hkk] at sp hc hf
              have HKK : Hid (kk.toNat = p.k) := hkk
              clear hyes hx hkk
              have hk4 : kk < 4 := by omega
              go_wp2_with fail
              go_region
              all_goals go_wp2_with fail
              refine ⟨⟨⟨p.k, p.d + 1, upd p.v p.k (10 * x + (bb - 48))⟩, kk, dd + 1, q + 1, rfl, rfl, rfl, ?_, by omega, by omega, hpb, ?_, ?_⟩, ?_⟩
              · have := HK.out
                simp only
                omega
              · have h := sp.keep (Below.refl _ _).drew
                rw [HKK.out] at h ⊢
                exact h
              · rw [show (q + 1).toNat = q.toNat + 1 by omega]; exact hrn
              · simp [Go.RowKit.intOf]; omega
            · have hd' : decide (dd < 3) = false := by simpa using hd
              have hno : stepP p bn = none := by
                unfold stepP
                rw [if_neg (by have := HB.out; omega), if_neg (by have := HB.out; have := HK.out; omega)]
              rw [hno] at hrn
              have e1 : rparseL s = none := by unfold rparseL; rw [run_none _ _ hrn]
              have e2 : rparseV s = zeroL := by unfold rparseV; rw [e1]; rfl
              have e3 : rparseE s = 1 := by unfold rparseE; rw [e1]
              have hz := st.box
              have hfr := st.fre
              have hB := st.bel
              clear st hrn hno e1 hp HK HR HB 
              go_wp2_with fail
              exact bodyPost_ret (v := .tuple #[zeroL.v, .int .i64 1]) (by have hp := put4_at (l' := zeroL) hz; simp only [put4, zeroL] at hp; simp [results, Tryd.results11, go_sem, hp, zeroL]) rfl ⟨by first | rfl | rw [e2, e3], put4_below (l := zeroL) hB (Nat.le_refl _)⟩
          · have h57' : decide (bb ≤ 57) = false := by simpa using h57
            have hno : stepP p bn = none := by
              unfold stepP
              rw [if_neg (by have := HB.out; omega), if_neg (by have := HB.out; omega)]
            rw [hno] at hrn
            have e1 : rparseL s = none := by unfold rparseL; rw [run_none _ _ hrn]
            have e2 : rparseV s = zeroL := by unfold rparseV; rw [e1]; rfl
            have e3 : rparseE s = 1 := by unfold rparseE; rw [e1]
            have hz := st.box
            have hfr := st.fre
            have hB := st.bel
            clear st hrn hno e1 hp HK HR HB 
            go_wp2_with fail
            exact bodyPost_ret (v := .tuple #[zeroL.v, .int .i64 1]) (by have hp := put4_at (l' := zeroL) hz; simp only [put4, zeroL] at hp; simp [results, Tryd.results11, go_sem, hp, zeroL]) rfl ⟨by first | rfl | rw [e2, e3], put4_below (l := zeroL) hB (Nat.le_refl _)⟩
        · have h48' : decide (48 ≤ bb) = false := by simpa using h48
          have hno : stepP p bn = none := by
            unfold stepP
            rw [if_neg (by have := HB.out; omega), if_neg (by have := HB.out; omega)]
          rw [hno] at hrn
          have e1 : rparseL s = none := by unfold rparseL; rw [run_none _ _ hrn]
          have e2 : rparseV s = zeroL := by unfold rparseV; rw [e1]; rfl
          have e3 : rparseE s = 1 := by unfold rparseE; rw [e1]
          have hz := st.box
          have hfr := st.fre
          have hB := st.bel
          clear st hrn hno e1 hp HK HR HB 
          go_wp2_with fail
          exact bodyPost_ret (v := .tuple #[zeroL.v, .int .i64 1]) (by have hp := put4_at (l' := zeroL) hz; simp only [put4, zeroL] at hp; simp [results, Tryd.results11, go_sem, hp, zeroL]) rfl ⟨by first | rfl | rw [e2, e3], put4_below (l := zeroL) hB (Nat.le_refl _)⟩
    · have hqe : q.toNat = s.size := by omega
      have hra := HR.out
      rw [hqe, List.take_of_length_le (by simp)] at hra
      have n0 := st.num 0 (by decide)
      have n1 := st.num 1 (by decide)
      have n2 := st.num 2 (by decide)
      have n3 := st.num 3 (by decide)
      have ps : rparseL s = (match runP s.data.toList startP with | some p => if okL (labP p) = true ∧ (⟨(textL (labP p)).toArray⟩ : ByteArray) = s then some (labP p) else none | none => none) := rfl
      rw [hra] at ps
      have ps' : ∀ L, L = labP p → rparseL s = if okL L = true ∧ (⟨(textL L).toArray⟩ : ByteArray) = s then some L else none := fun L h => by subst h; exact ps
      obtain ⟨x0, hx0⟩ : ∃ x, x = p.v 0 := ⟨_, rfl⟩
      obtain ⟨x1, hx1⟩ : ∃ x, x = p.v 1 := ⟨_, rfl⟩
      obtain ⟨x2, hx2⟩ : ∃ x, x = p.v 2 := ⟨_, rfl⟩
      obtain ⟨x3, hx3⟩ : ∃ x, x = p.v 3 := ⟨_, rfl⟩
      rw [← hx0] at n0
      rw [← hx1] at n1
      rw [← hx2] at n2
      rw [← hx3] at n3
      clear ps
      have ps := ps' ⟨x0, x1, x2, x3⟩ (by rw [hx0, hx1, hx2, hx3]; rfl)
      clear hra HR HK hp hqe st0 ps' hx0 hx1 hx2 hx3
      have hqn : decide (q < (s.size : Int)) = false := by simp; omega
      clear hlt hq1
      go_wp2_with fail
      have hbn := alloc_below wr (.cells #[.int .i64 x0, .int .i64 x1, .int .i64 x2, .int .i64 x3] 23)
      have st3 := st.keep hbn
      have hL : Boxed (wr.alloc (.cells #[.int .i64 x0, .int .i64 x1, .int .i64 x2, .int .i64 x3] 23)) wr.heap.size ⟨x0, x1, x2, x3⟩ := boxed_alloc wr ⟨x0, x1, x2, x3⟩
      have cC := rcheck_any ⟨x0, x1, x2, x3⟩ (wr.alloc (.cells #[.int .i64 x0, .int .i64 x1, .int .i64 x2, .int .i64 x3] 23))
      clear st n0 n1 n2 n3 hbn
      generalize wr.alloc (.cells #[.int .i64 x0, .int .i64 x1, .int .i64 x2, .int .i64 x3] 23) = W3 at *
      generalize wr.heap.size = lb at *
      refine cC.mono ?_
      rintro e W4 ⟨he, hb⟩
      have hL4 := hL.keep hb
      have st4 := st3.keep hb
      clear cC hL st3 hb
      cases o1 : okL ⟨x0, x1, x2, x3⟩
      · have c1 : chkL ⟨x0, x1, x2, x3⟩ = 1 := by simp [chkL, o1]
        rw [c1] at he
        subst he
        rw [if_neg (by rw [o1]; simp)] at ps
        have e2 : rparseV s = zeroL := by unfold rparseV; rw [ps]; rfl
        have e3 : rparseE s = 1 := by unfold rparseE; rw [ps]
        have hz := st4.box
        have hfr := st4.fre
        have hB := st4.bel
        clear st4 ps c1 o1
        go_wp2_with fail
        exact bodyPost_ret (v := .tuple #[zeroL.v, .int .i64 1]) (by have hp := put4_at (l' := zeroL) hz; simp only [put4, zeroL] at hp; simp [results, Tryd.results11, go_sem, hp, zeroL]) rfl ⟨by first | rfl | rw [e2, e3], put4_below (l := zeroL) hB (Nat.le_refl _)⟩
      · have c1 : chkL ⟨x0, x1, x2, x3⟩ = 0 := by simp [chkL, o1]
        rw [c1] at he
        subst he
        have cT := rtext_any ⟨x0, x1, x2, x3⟩ (ok_GL _ o1)
        obtain ⟨T, hT⟩ : ∃ T : ByteArray, T = ⟨(textL ⟨x0, x1, x2, x3⟩).toArray⟩ := ⟨_, rfl⟩
        rw [← hT] at cT ps
        clear hT c1
        go_wp2_with fail
        refine (cT _).mono ?_
        rintro e W5 ⟨rfl, hb⟩
        have hL5 := hL4.keep hb
        have st5 := st4.keep hb
        clear cT hL4 st4 hb
        by_cases ht : T = s
        · subst ht
          rw [if_pos ⟨o1, rfl⟩] at ps
          have e2 : rparseV T = ⟨x0, x1, x2, x3⟩ := by unfold rparseV; rw [ps]; rfl
          have e3 : rparseE T = 0 := by unfold rparseE; rw [ps]
          have hz := st5.box
          have hfr := st5.fre
          have hB := st5.bel
          clear st5 ps o1
          go_wp2_with fail
          exact bodyPost_ret (v := .tuple #[(⟨x0, x1, x2, x3⟩ : Lab).v, .int .i64 0]) (by have hp := put4_at (l' := ⟨x0, x1, x2, x3⟩) hz; simp only [put4] at hp; simp [results, Tryd.results11, go_sem, hp]) rfl ⟨by first | rfl | rw [e2, e3], put4_below (l := ⟨x0, x1, x2, x3⟩) hB (Nat.le_refl _)⟩
        · rw [if_neg (fun h => ht h.2)] at ps
          have e2 : rparseV s = zeroL := by unfold rparseV; rw [ps]; rfl
          have e3 : rparseE s = 1 := by unfold rparseE; rw [ps]
          have hz := st5.box
          have hfr := st5.fre
          have hB := st5.bel
          have htl : (T.toList == s.toList) = false := by
            rw [← Bool.not_eq_true, beq_iff_eq, ByteArray.toList_eq, ByteArray.toList_eq]
            intro h
            apply ht
            cases T; cases s
            simp only [ByteArray.mk.injEq]
            exact Array.toList_inj.1 h
          clear st5 ps o1 ht
          go_wp2_with fail
          exact bodyPost_ret (v := .tuple #[zeroL.v, .int .i64 1]) (by have hp := put4_at (l' := zeroL) hz; simp only [put4, zeroL] at hp; simp [results, Tryd.results11, go_sem, hp, zeroL]) rfl ⟨by first | rfl | rw [e2, e3], put4_below (l := zeroL) hB (Nat.le_refl _)⟩
end Go.Proofs.YtbaaomplennalaaDoor
