/-
  label.Parse: what it reads of any text, as a plain function.
-/
import Derived.Test.YtbaaomplennalaaDoorLabelThree
import Derived.Test.YtbaaomplennalaaDoorLabelShelf
import Derived.Deep.RegionHeld
namespace Go.Proofs.YtbaaomplennalaaDoor
open Go.RowKit
set_option linter.unusedSimpArgs false

/-- What the library's variables hold that Parse's road reads. -/
structure Vars (w : World) : Prop where
  tab : Tab w
  max : ∃ m, w.cell? ⟨2, 0, none⟩ = some (.int .i64 m)
  syn : ∃ e, w.cell? ⟨0, 0, none⟩ = some e ∧ (e = .nilIface ∨ ∃ te pe, e = .iface te pe)
  rng : ∃ e, w.cell? ⟨1, 0, none⟩ = some e ∧ (e = .nilIface ∨ ∃ te pe, e = .iface te pe)
theorem Vars.keep {w w' : World} (h : Vars w) (hb : Below w.heap.size w w') : Vars w' := by
  obtain ⟨t, ⟨m, hm⟩, ⟨e, he, he'⟩, f, hf, hf'⟩ := h
  exact ⟨t.keep hb, ⟨m, (hb.cell (World.block_lt_of_cell? _ _ hm)).trans hm⟩, ⟨e, (hb.cell (World.block_lt_of_cell? _ _ he)).trans he, he'⟩, f, (hb.cell (World.block_lt_of_cell? _ _ hf)).trans hf, hf'⟩

def dot : ByteArray := ⟨#[46]⟩
def partsB (s : ByteArray) : List ByteArray := Lib.splitB dot 0 (min 5 (s.size + 1) - 1) s
def numB (p : ByteArray) : Option Int := match Lib.atoiAll p.data.toList with | .ok v => some v | _ => none
theorem numB_some {p : ByteArray} {v : Int} (h : numB p = some v) : Lib.atoiAll p.data.toList = .ok v := by
  unfold numB at h; split at h <;> simp_all
theorem numB_none {p : ByteArray} (h : numB p = none) : ∀ v, Lib.atoiAll p.data.toList ≠ .ok v := by
  intro v e; unfold numB at h; rw [e] at h; simp at h
/-- The label that four texts of numbers tell. -/
def readL (p : List ByteArray) : Option Lab :=
  match p with
  | [a, b, c, d] => match numB a, numB b, numB c, numB d with
    | some x, some y, some z, some t => some ⟨x, y, z, t⟩
    | _, _, _, _ => none
  | _ => none
def parseL (s : ByteArray) : Option Lab :=
  match readL (partsB s) with
  | some l => if okL l = true ∧ (⟨(textL l).toArray⟩ : ByteArray) = s then some l else none
  | none => none
def zeroL : Lab := ⟨0, 0, 0, 0⟩
def parseV (s : ByteArray) : Lab := (parseL s).getD zeroL
def parseE (s : ByteArray) : Int := match parseL s with | some _ => 0 | none => 1

/-- Parse under way: q numbers have been read. -/
structure PSt (w : World) (P : List ByteArray) (nb q : Nat) (W : World) : Prop where
  bel : Below w.heap.size w W
  size : nb < W.heap.size
  far : w.heap.size + 1 < nb
  box : Boxed W w.heap.size zeroL
  fre : Free W w.heap.size
  par : ∀ j : Nat, j < 4 → W.cell? ⟨w.heap.size + 1, j, none⟩ = some (.string (P.getD j ⟨#[]⟩))
  num : ∀ j : Nat, j < 4 → W.cell? ⟨nb, j, none⟩ = some (.int .i64 (if j < q then (numB (P.getD j ⟨#[]⟩)).getD 0 else 0))
  nfr : ∀ j : Nat, j < 4 → W.frozen? ⟨nb, j, none⟩ = false
theorem PSt.keep {w W W' : World} {P : List ByteArray} {nb q : Nat} (h : PSt w P nb q W) (hb : Below W.heap.size W W') : PSt w P nb q W' where
  bel := Below.then h.bel hb
  size := Nat.lt_of_lt_of_le h.size hb.size
  far := h.far
  box := h.box.keep hb
  fre := h.fre.keep (by have := h.size; have := h.far; omega) hb
  par j hj := (hb.cell (p := ⟨w.heap.size + 1, j, none⟩) (by have := h.size; have := h.far; show w.heap.size + 1 < _; omega)).trans (h.par j hj)
  num j hj := (hb.cell (p := ⟨nb, j, none⟩) h.size).trans (h.num j hj)
  nfr j hj := (hb.frozen (p := ⟨nb, j, none⟩) h.size).trans (h.nfr j hj)
theorem PSt.put {w W : World} {P : List ByteArray} {nb q : Nat} (h : PSt w P nb q W) {v : Int} (hv : numB (P.getD q ⟨#[]⟩) = some v) (hq : q < 4) : PSt w P nb (q + 1) (W.setCell ⟨nb, q, none⟩ (.int .i64 v)) where
  bel := h.bel.setCell (p := ⟨nb, q, none⟩) (by have := h.far; show w.heap.size ≤ nb; omega) _
  size := by simpa using h.size
  far := h.far
  box := by
    have hf := h.far
    obtain ⟨a, b, c, d⟩ := h.box
    have hne : nb ≠ w.heap.size := by omega
    refine ⟨?_, ?_, ?_, ?_⟩ <;> simp [World.cell?_setCell_far, *]
  fre := by
    have hf := h.far
    have e := Below.heap_setCell W ⟨nb, q, none⟩ (.int .i64 v) w.heap.size (by show w.heap.size ≠ nb; omega)
    obtain ⟨a, b, c, d⟩ := h.fre
    exact ⟨(World.frozen?_of_block (w := W) (a := ⟨w.heap.size, 0, none⟩) e).trans a, (World.frozen?_of_block (w := W) (a := ⟨w.heap.size, 1, none⟩) e).trans b, (World.frozen?_of_block (w := W) (a := ⟨w.heap.size, 2, none⟩) e).trans c, (World.frozen?_of_block (w := W) (a := ⟨w.heap.size, 3, none⟩) e).trans d⟩
  par j hj := by
    have hf := h.far
    rw [World.cell?_setCell_far _ _ _ _ (by show nb ≠ w.heap.size + 1; omega)]
    exact h.par j hj
  num j hj := by
    by_cases e : j = q
    · subst e
      rw [World.cell?_setCell_same _ _ _ (h.num j hj), if_pos (by omega), hv]
      rfl
    · rw [World.cell?_setCell_other _ _ _ _ (by intro k; apply e; cases k; rfl), h.num j hj]
      by_cases e2 : j < q
      · rw [if_pos e2, if_pos (by omega)]
      · rw [if_neg e2, if_neg (by omega)]
  nfr j hj := by
    rw [World.frozen?_setCell]
    exact h.nfr j hj
/-- Four parts, one of them no number: nothing is read. -/
theorem read_none {P : List ByteArray} (h4 : P.length = 4) {j : Nat} (hj : j < 4) (h : numB (P.getD j ⟨#[]⟩) = none) : readL P = none := by
  match P, h4 with
  | [a, b, c, d], _ =>
    have : j = 0 ∨ j = 1 ∨ j = 2 ∨ j = 3 := by omega
    rcases this with rfl | rfl | rfl | rfl <;> simp at h <;> simp only [readL, h] <;> split <;> simp_all
theorem read_some {P : List ByteArray} (h4 : P.length = 4) (h : ∀ j : Nat, j < 4 → ∃ v, numB (P.getD j ⟨#[]⟩) = some v) :
    readL P = some ⟨(numB (P.getD 0 ⟨#[]⟩)).getD 0, (numB (P.getD 1 ⟨#[]⟩)).getD 0, (numB (P.getD 2 ⟨#[]⟩)).getD 0, (numB (P.getD 3 ⟨#[]⟩)).getD 0⟩ := by
  match P, h4 with
  | [a, b, c, d], _ =>
    obtain ⟨v0, h0⟩ := h 0 (by decide)
    obtain ⟨v1, h1⟩ := h 1 (by decide)
    obtain ⟨v2, h2⟩ := h 2 (by decide)
    obtain ⟨v3, h3⟩ := h 3 (by decide)
    simp at h0 h1 h2 h3
    simp [readL, h0, h1, h2, h3]

theorem piece_le (sep : ByteArray) (save : Nat) : ∀ (k : Nat) (s p : ByteArray), p ∈ Lib.splitB sep save k s → p.size ≤ s.size
  | 0, s, p, h => by simp [Lib.splitB] at h; rw [h]; exact Nat.le_refl _
  | k + 1, s, p, h => by
    unfold Lib.splitB at h
    split at h
    · simp at h; rw [h]; exact Nat.le_refl _
    · rcases List.mem_cons.1 h with rfl | h
      · simp [ByteArray.size_extract]; omega
      · have := piece_le sep save k _ p h
        simp [ByteArray.size_extract] at this; omega
theorem part_le (s : ByteArray) (j : Nat) : ((partsB s).getD j ⟨#[]⟩).size ≤ s.size := by
  rw [List.getD_eq_getElem?_getD]
  cases h : (partsB s)[j]? with
  | none => exact Nat.zero_le _
  | some p => exact piece_le _ _ _ _ _ (List.mem_of_getElem? h)

theorem ok_GL (l : Lab) (h : okL l = true) : GL l := by
  simp only [okL, inB, Bool.and_eq_true, decide_eq_true_eq] at h
  obtain ⟨⟨⟨⟨a, b⟩, c, d⟩, e, f⟩, g, i⟩ := h
  exact ⟨a, b, c, d, e, f, g, i⟩
theorem partsB_len (s : ByteArray) : (partsB s).length ≤ 5 := by
  have := Lib.splitB_length_le dot 0 (min 5 (s.size + 1) - 1) s
  unfold partsB; omega

set_option maxHeartbeats 2000000 in
theorem parse_any (s : ByteArray) (hs : s.size < 4294967281) (w : World) (hv : Vars w) :
    Calls Tryd.prog 10 #[.string s] w fun e w' => e = .returned (.tuple #[(parseV s).v, .int .i64 (parseE s)]) ∧ Below w.heap.size w w' := by
  have hv0 := hv.keep ((Below.refl _ _).alloc (Nat.le_refl _) (.cells #[.int .i64 0, .int .i64 0, .int .i64 0, .int .i64 0] 23))
  obtain ⟨m, hm⟩ := hv0.max
  have cS := splitN_any s dot 5 m (w.alloc (.cells #[.int .i64 0, .int .i64 0, .int .i64 0, .int .i64 0] 23)) hs hm (by decide) (by decide) (by decide)
  rw [show Lib.splitB dot 0 (min 5 (s.size + 1) - 1) s = partsB s from rfl] at cS
  have hl5 := partsB_len s
  have hpe : ∃ P, P = partsB s := ⟨_, rfl⟩
  obtain ⟨P, hP⟩ := hpe
  go_enter Tryd.func10, Tryd.ntmps10
  go_wp2_with fail
  refine cS.mono ?_
  rintro e W1 ⟨rfl, hW1⟩
  by_cases h4 : (partsB s).length = 4
  · have hB : Below w.heap.size w W1 := by rw [hW1]; exact below2 _ _ _
    have hbn := (Below.refl _ (w.alloc (.cells #[.int .i64 0, .int .i64 0, .int .i64 0, .int .i64 0] 23))).alloc (Nat.le_refl _) (.cells (Lib.cellsOf (partsB s) (min 5 (s.size + 1))) 9)
    have hz : Boxed W1 w.heap.size zeroL ∧ Free W1 w.heap.size := by
      rw [hW1]
      exact ⟨(boxed_alloc w zeroL).keep hbn, (free_alloc w #[.int .i64 0, .int .i64 0, .int .i64 0, .int .i64 0] 23).keep (by simp) hbn⟩
    have hPc : ∀ j : Nat, j < 4 → W1.cell? ⟨w.heap.size + 1, j, none⟩ = some (.string (P.getD j ⟨#[]⟩)) := fun j hj => by
      rw [hW1]
      have : w.heap.size + 1 = (w.alloc (.cells #[.int .i64 0, .int .i64 0, .int .i64 0, .int .i64 0] 23)).heap.size := by simp
      rw [this, World.cell?_alloc_at _ _ _ _ rfl, Lib.cellsOf, List.getElem?_toArray, ← hP, List.getElem?_append_left (by simp; rw [hP]; omega), List.getElem?_map, List.getElem?_eq_getElem (by rw [hP]; omega), List.getD_eq_getElem?_getD, List.getElem?_eq_getElem (by rw [hP]; omega)]
      rfl
    have hv1 : Vars W1 := hv.keep hB
    have hps : (w.alloc (.cells #[.int .i64 0, .int .i64 0, .int .i64 0, .int .i64 0] 23)).heap.size = w.heap.size + 1 := by simp
    have hs1 : W1.heap.size = w.heap.size + 1 + 1 := by rw [hW1]; simp
    rw [hps]
    clear hW1 cS hm hv0 hbn hps
    rw [← hP] at h4 ⊢
    have HP : Hid (P = partsB s) := hP
    rw [h4]
    clear hP hl5
    have HL : Hid (P.length = 4) := h4
    clear h4
    have hpz : ∀ j : Nat, (P.getD j ⟨#[]⟩).size < 4294967281 := fun j => by have := part_le s j; rw [← HP.out] at this; omega
    have HS : Hid (W1.heap.size = w.heap.size + 1 + 1) := hs1
    clear hs1
    generalize min 5 (s.size + 1) = cp
    go_wp2_with fail
    have st : PSt w P W1.heap.size 0 (W1.alloc (.cells #[.int .i64 0, .int .i64 0, .int .i64 0, .int .i64 0] 44)) := by
      have hb := (Below.refl _ W1).alloc (Nat.le_refl _) (.cells #[.int .i64 0, .int .i64 0, .int .i64 0, .int .i64 0] 44)
      have hS := HS.out
      refine ⟨Below.then hB hb, by simp, by rw [hS]; omega, hz.1.keep hb, hz.2.keep (by omega) hb, fun j hj => (hb.cell (p := ⟨w.heap.size + 1, j, none⟩) (by show w.heap.size + 1 < _; omega)).trans (hPc j hj), fun j hj => ?_, fun j hj => World.frozen?_alloc_new _ _ _ _⟩
      rw [World.cell?_alloc_at _ _ _ _ rfl, if_neg (by omega)]
      have : j = 0 ∨ j = 1 ∨ j = 2 ∨ j = 3 := by omega
      rcases this with rfl | rfl | rfl | rfl <;> rfl
    generalize W1.alloc (.cells #[.int .i64 0, .int .i64 0, .int .i64 0, .int .i64 0] 44) = W2 at st ⊢
    generalize W1.heap.size = nb at st ⊢
    clear hPc hz hB hv1 HS
    go_loopw [19] (fun t wr => ∃ q : Int, 0 ≤ q ∧ q ≤ 4 ∧ t = .int .i64 q ∧ PSt w P nb q.toNat wr ∧ ∀ j : Nat, j < q.toNat → ∃ v, numB (P.getD j ⟨#[]⟩) = some v) (fun t _ => 4 - (Go.RowKit.intOf t).toNat)
    case atStart => exact ⟨0, by omega, by omega, rfl, st, fun j hj => by simp at hj⟩
    case round =>
      obtain ⟨q, hq0, hq4, rfl, st, hok⟩ := hrel
      have hvr := hv.keep st.bel
      by_cases hlt : q < 4
      · have hc := st.par q.toNat (by omega)
        have hn := st.num q.toNat (by omega)
        have hf := st.nfr q.toNat (by omega)
        have hsz := hpz q.toNat
        obtain ⟨e0, hv0, he0⟩ := hvr.syn
        obtain ⟨e1, hv1, he1⟩ := hvr.rng
        cases hnum : numB (P.getD q.toNat ⟨#[]⟩) with
        | none =>
          have e1 : parseL s = none := by unfold parseL; rw [← HP.out, read_none HL.out (by omega) hnum]
          have e2 : parseV s = zeroL := by unfold parseV; rw [e1]; rfl
          have e3 : parseE s = 1 := by unfold parseE; rw [e1]
          have cA := atoi_bad (P.getD q.toNat ⟨#[]⟩) (by omega) (numB_none hnum) wr hv0 he0 hv1 he1
          clear hn hf hnum hok hv0 he0 hv1 he1 hv hvr
          generalize P.getD q.toNat ⟨#[]⟩ = p at *
          go_wp2_with fail
          refine cA.mono ?_
          rintro e Wa ⟨x, t, pp, rfl, hb⟩
          have st' := st.keep hb
          have hz := st'.box
          have hfr := st'.fre
          have hB := st'.bel
          clear cA st hb st' hc
          go_wp2_with fail
          exact bodyPost_ret (v := .tuple #[zeroL.v, .int .i64 1]) (by have hp := put4_at (l' := zeroL) hz; simp only [put4, zeroL] at hp; simp [results, Tryd.results10, go_sem, hp, zeroL]) rfl ⟨by rw [e2, e3], put4_below (l := zeroL) hB (Nat.le_refl _)⟩
        | some v =>
          have cA := atoi_ok (P.getD q.toNat ⟨#[]⟩) (by omega) v (numB_some hnum) wr
          have hok' : ∀ j : Nat, j < q.toNat + 1 → ∃ v, numB (P.getD j ⟨#[]⟩) = some v := fun j hj => by
            by_cases e : j = q.toNat
            · rw [e]; exact ⟨v, hnum⟩
            · exact hok j (by omega)
          clear hok hv0 he0 hv1 he1
          have HC : Hid (∀ W : World, PSt w P nb q.toNat W → PSt w P nb (q.toNat + 1) (W.setCell ⟨nb, q.toNat, none⟩ (.int .i64 v))) := fun W h => h.put hnum (by omega)
          clear hnum hn hf
          obtain ⟨p, hp⟩ : ∃ p, p = P.getD q.toNat ⟨#[]⟩ := ⟨_, rfl⟩
          rw [← hp] at hc cA
          clear hp
          go_wp2_with fail
          refine cA.mono ?_
          rintro e Wa ⟨rfl, hb⟩
          have st' := st.keep hb
          have hn' := st'.num q.toNat (by omega)
          rw [if_neg (by omega)] at hn'
          have hf' := st'.nfr q.toNat (by omega)
          have sp := HC.out Wa st'
          clear cA st hb hc HC hvr
          go_wp2_with fail
          refine ⟨⟨q + 1, by omega, by omega, rfl, ?_, ?_⟩, ?_⟩
          · rw [show (q + 1).toNat = q.toNat + 1 by omega]; exact sp
          · rw [show (q + 1).toNat = q.toNat + 1 by omega]; exact hok'
          · simp [Go.RowKit.intOf]; omega
      · have hq : q = 4 := by omega
        subst hq
        have rs := read_some HL.out (fun j hj => hok j hj)
        have n0 := st.num 0 (by decide)
        have n1 := st.num 1 (by decide)
        have n2 := st.num 2 (by decide)
        have n3 := st.num 3 (by decide)
        rw [if_pos (by decide)] at n0 n1 n2 n3
        have ps : parseL s = (match readL P with | some l => if okL l = true ∧ (⟨(textL l).toArray⟩ : ByteArray) = s then some l else none | none => none) := by rw [HP.out]; rfl
        rw [rs] at ps
        simp only at ps
        clear rs hok hpz HP HL
        generalize (numB (P.getD 0 ⟨#[]⟩)).getD 0 = x0 at *
        generalize (numB (P.getD 1 ⟨#[]⟩)).getD 0 = x1 at *
        generalize (numB (P.getD 2 ⟨#[]⟩)).getD 0 = x2 at *
        generalize (numB (P.getD 3 ⟨#[]⟩)).getD 0 = x3 at *
        go_wp2_with fail
        have hbn := (Below.refl _ wr).alloc (Nat.le_refl _) (.cells #[.int .i64 x0, .int .i64 x1, .int .i64 x2, .int .i64 x3] 23)
        have st3 := st.keep hbn
        have hL : Boxed (wr.alloc (.cells #[.int .i64 x0, .int .i64 x1, .int .i64 x2, .int .i64 x3] 23)) wr.heap.size ⟨x0, x1, x2, x3⟩ := boxed_alloc wr ⟨x0, x1, x2, x3⟩
        have cC := check_any ⟨x0, x1, x2, x3⟩ (wr.alloc (.cells #[.int .i64 x0, .int .i64 x1, .int .i64 x2, .int .i64 x3] 23))
        clear st n0 n1 n2 n3 hbn hvr
        generalize wr.alloc (.cells #[.int .i64 x0, .int .i64 x1, .int .i64 x2, .int .i64 x3] 23) = W3 at *
        generalize wr.heap.size = lb at *
        refine cC.mono ?_
        rintro e W4 ⟨he, hb⟩
        have hL4 := hL.keep hb
        have st4 := st3.keep hb
        clear cC hL st3 hb
        cases o1 : okL ⟨x0, x1, x2, x3⟩
        · have c1 : chkL ⟨x0, x1, x2, x3⟩ = 1 := by simp [chkL, o1]
          rw [c1] at he
          subst he
          rw [if_neg (by rw [o1]; simp)] at ps
          have e2 : parseV s = zeroL := by unfold parseV; rw [ps]; rfl
          have e3 : parseE s = 1 := by unfold parseE; rw [ps]
          have hz := st4.box
          have hfr := st4.fre
          have hB := st4.bel
          clear st4 ps c1 o1
          go_wp2_with fail
          exact bodyPost_ret (v := .tuple #[zeroL.v, .int .i64 1]) (by have hp := put4_at (l' := zeroL) hz; simp only [put4, zeroL] at hp; simp [results, Tryd.results10, go_sem, hp, zeroL]) rfl ⟨by rw [e2, e3], put4_below (l := zeroL) hB (Nat.le_refl _)⟩
        · have c1 : chkL ⟨x0, x1, x2, x3⟩ = 0 := by simp [chkL, o1]
          rw [c1] at he
          subst he
          have cT := text_any ⟨x0, x1, x2, x3⟩ (ok_GL _ o1).fits
          obtain ⟨T, hT⟩ : ∃ T : ByteArray, T = ⟨(textL ⟨x0, x1, x2, x3⟩).toArray⟩ := ⟨_, rfl⟩
          rw [← hT] at cT ps
          clear hT c1
          go_wp2_with fail
          refine (cT _ (hv.keep st4.bel).tab).mono ?_
          rintro e W5 ⟨rfl, hb⟩
          have hL5 := hL4.keep hb
          have st5 := st4.keep hb
          clear cT hL4 st4 hb
          by_cases ht : T = s
          · subst ht
            rw [if_pos ⟨o1, rfl⟩] at ps
            have e2 : parseV T = ⟨x0, x1, x2, x3⟩ := by unfold parseV; rw [ps]; rfl
            have e3 : parseE T = 0 := by unfold parseE; rw [ps]
            have hz := st5.box
            have hfr := st5.fre
            have hB := st5.bel
            clear st5 ps o1
            go_wp2_with fail
            exact bodyPost_ret (v := .tuple #[(⟨x0, x1, x2, x3⟩ : Lab).v, .int .i64 0]) (by have hp := put4_at (l' := ⟨x0, x1, x2, x3⟩) hz; simp only [put4] at hp; simp [results, Tryd.results10, go_sem, hp]) rfl ⟨by rw [e2, e3], put4_below (l := ⟨x0, x1, x2, x3⟩) hB (Nat.le_refl _)⟩
          · rw [if_neg (fun h => ht h.2)] at ps
            have e2 : parseV s = zeroL := by unfold parseV; rw [ps]; rfl
            have e3 : parseE s = 1 := by unfold parseE; rw [ps]
            have hz := st5.box
            have hfr := st5.fre
            have hB := st5.bel
            have htl : (T.toList == s.toList) = false := by
              rw [← Bool.not_eq_true, beq_iff_eq, ByteArray.toList_eq, ByteArray.toList_eq]
              intro h
              apply ht
              cases T; cases s
              simp only [ByteArray.mk.injEq]
              exact Array.toList_inj.1 h
            clear st5 ps o1 ht
            go_wp2_with fail
            exact bodyPost_ret (v := .tuple #[zeroL.v, .int .i64 1]) (by have hp := put4_at (l' := zeroL) hz; simp only [put4, zeroL] at hp; simp [results, Tryd.results10, go_sem, hp, zeroL]) rfl ⟨by rw [e2, e3], put4_below (l := zeroL) hB (Nat.le_refl _)⟩
  · have e1 : parseL s = none := by
      unfold parseL readL
      split
      · rename_i h; split at h
        · rename_i e2; rw [e2] at h4; simp at h4
        · cases h
      · rfl
    have e2 : parseV s = zeroL := by unfold parseV; rw [e1]; rfl
    have e3 : parseE s = 1 := by unfold parseE; rw [e1]
    have hB : Below w.heap.size w W1 := by rw [hW1]; exact below2 _ _ _
    have hz : Boxed W1 w.heap.size zeroL ∧ Free W1 w.heap.size := by
      rw [hW1]
      have hb := (Below.refl _ (w.alloc (.cells #[.int .i64 0, .int .i64 0, .int .i64 0, .int .i64 0] 23))).alloc (Nat.le_refl _) (.cells (Lib.cellsOf (partsB s) (min 5 (s.size + 1))) 9)
      exact ⟨(boxed_alloc w zeroL).keep hb, (free_alloc w #[.int .i64 0, .int .i64 0, .int .i64 0, .int .i64 0] 23).keep (by simp) hb⟩
    clear hW1 cS hm hv0 hv
    have h4' : ((((partsB s).length : Nat) : Int) != 4) = true := by
      rw [bne_iff_ne]; omega
    generalize (w.alloc (.cells #[.int .i64 0, .int .i64 0, .int .i64 0, .int .i64 0] 23)).heap.size = pb
    generalize (partsB s).length = n at *
    go_wp2_with fail
    refine bodyPost_ret (v := .tuple #[zeroL.v, .int .i64 1]) (by have hp := put4_at (l' := zeroL) hz.1; simp only [put4, zeroL] at hp; simp [results, Tryd.results10, go_sem, hp, zeroL]) rfl ⟨by rw [e2, e3], ?_⟩
    exact put4_below (l := zeroL) hB (Nat.le_refl _)
end Go.Proofs.YtbaaomplennalaaDoor
