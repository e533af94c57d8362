/-
  PACKAGE wal's mark, carry, settle: what they ask of the disk, one after another.
-/
import Derived.Test.YtgjnlocokkjejaaWalDisk
namespace Go.Proofs.Ytgjnlocokkjejaa
open Go.RowKit Go.Maps

theorem endOf_true : endOf true = .returned (.tuple #[]) := rfl
theorem endOf_false : endOf false = .panicked (thrown 12) := rfl

namespace Dsk
theorem run_alive : ∀ (r : List DOp) {σ σ1 : Dsk}, σ.run r = (σ1, true) → σ1.dead = σ.dead
  | [], σ, σ1, h => by simp [run] at h; rw [h]
  | o :: r, σ, σ1, h => by
    by_cases hs : σ.left = 1
    · rw [run_stop hs] at h; cases h
    · rw [run_go hs] at h
      have := run_alive r h
      rw [this]
      rcases o with _ | ⟨k, l⟩ <;> rfl
/-- One, then the others. -/
theorem run_two {σ σ1 : Dsk} {a b : List DOp} (h : σ.run a = (σ1, true)) : σ.run (a ++ b) = σ1.run b := by rw [run_append, h]; rfl
theorem run_two_dead {σ σ1 : Dsk} {a : List DOp} (b : List DOp) (h : σ.run a = (σ1, false)) : σ.run (a ++ b) = (σ1, false) := by rw [run_append, h]; rfl
end Dsk

/-- A log, on its disk. -/
structure LogIs (w : World) (lb db pb mb n B : Nat) (σ : Dsk) (s : Int) : Prop where
  disk : DiskIs w db pb mb n B σ
  own : w.heap[lb]? = some (.cells #[.pointer (some ⟨db, 0, none⟩), .int .i64 (n : Int), .int .i64 s] 89 (0, 0))
  ld : lb ≠ db
  lp : lb ≠ pb
  lm : lb ≠ mb

section
variable {w w' : World} {lb db pb mb n B B' : Nat} {σ σ' : Dsk} {s : Int}
theorem LogIs.lbl (h : LogIs w lb db pb mb n B σ s) : lb < w.heap.size := (Array.getElem?_eq_some_iff.1 h.own).1
theorem LogIs.c0 (h : LogIs w lb db pb mb n B σ s) : w.cell? ⟨lb, 0, none⟩ = some (.pointer (some ⟨db, 0, none⟩)) := by simp [World.cell?, h.own]
theorem LogIs.c1 (h : LogIs w lb db pb mb n B σ s) : w.cell? ⟨lb, 1, none⟩ = some (.int .i64 (n : Int)) := by simp [World.cell?, h.own]
theorem LogIs.c2 (h : LogIs w lb db pb mb n B σ s) : w.cell? ⟨lb, 2, none⟩ = some (.int .i64 s) := by simp [World.cell?, h.own]
theorem LogIs.fz (h : LogIs w lb db pb mb n B σ s) (i : Nat) : w.frozen? ⟨lb, i, none⟩ = false := by simp [World.frozen?, h.own]
theorem LogIs.kept {S : List Nat} (h : LogIs w lb db pb mb n B σ s) (k : Kept S w w') (h0 : lb ∉ S) (h1 : db ∉ S) (h2 : pb ∉ S) (h3 : mb ∉ S) : LogIs w' lb db pb mb n B σ s :=
  ⟨h.disk.kept k h1 h2 h3, (k.block lb h.lbl h0).trans h.own, h.ld, h.lp, h.lm⟩
theorem LogIs.same (h : LogIs w lb db pb mb n B σ s) (k : Kept [] w w') : LogIs w' lb db pb mb n B σ s := h.kept k (by simp) (by simp) (by simp) (by simp)
theorem LogIs.alloc (h : LogIs w lb db pb mb n B σ s) (o : Obj) : LogIs (w.alloc o) lb db pb mb n B σ s := h.same (Kept.of_alloc _ _ _)
/-- The disk has turned. -/
theorem LogIs.turn (h : LogIs w lb db pb mb n B σ s) (k : Kept [db, pb, mb] w w') (d : DiskIs w' db pb mb n B' σ') : LogIs w' lb db pb mb n B' σ' s :=
  ⟨d, (k.block lb h.lbl (by simp [h.ld, h.lp, h.lm])).trans h.own, h.ld, h.lp, h.lm⟩
theorem LogIs.set_seq (h : LogIs w lb db pb mb n B σ s) (x : Int) : LogIs (w.setCell ⟨lb, 2, none⟩ (.int .i64 x)) lb db pb mb n B σ x := by
  have k : Kept [lb] w (w.setCell ⟨lb, 2, none⟩ (.int .i64 x)) := (Kept.refl _ w).setCell (by simp) _
  exact ⟨h.disk.kept k (by simpa using h.ld.symm) (by simpa using h.lp.symm) (by simpa using h.lm.symm), by rw [heap_setCell_at _ h.own]; rfl, h.ld, h.lp, h.lm⟩
theorem LogIs.mono (h : LogIs w lb db pb mb n B σ s) (hb : B ≤ B') : LogIs w lb db pb mb n B' σ s := ⟨h.disk.mono hb, h.own, h.ld, h.lp, h.lm⟩
end

/-- The mark's bytes. -/
def markOf (s st : Int) : List Int := (lay zeros 0 (enc 8 s)).set 8 st
theorem markOf_sec (s st : Int) (h0 : 0 ≤ st) (h1 : st < 256) : Sec (markOf s st) := by
  refine ⟨by rw [markOf, List.length_set, lay_len _ _ _ (by rw [enc_len, zeros_sec.1]; decide), zeros_sec.1], fun x hx => ?_⟩
  rcases List.mem_or_eq_of_mem_set hx with hx | rfl
  · exact lay_ok _ _ _ zeros_sec.2 (enc_ok 8 s) x hx
  · exact ⟨h0, h1⟩

section
variable {w w' : World} {lb db pb mb n B B' : Nat} {σ σ' : Dsk} {s : Int}

set_option maxHeartbeats 1000000 in
theorem mark_any (h : LogIs w lb db pb mb n B σ s) (hd : σ.dead = false) (hn : 42 < n) (hB : B < 800000) (sq st : Int) (h0 : 0 ≤ st) (h1 : st < 256) :
    Calls Try.prog 58 #[.pointer (some ⟨lb, 0, none⟩), .int .i64 sq, .int .u8 st] w fun e w' =>
      e = endOf (σ.run [.w 0 (markOf sq st), .f]).2 ∧ LogIs w' lb db pb mb n (B + 2) (σ.run [.w 0 (markOf sq st), .f]).1 s ∧ Kept [db, pb, mb] w w' := by
  have hmk := make_bytes
  go_enter Try.func58, Try.ntmps58
  go_wp2_with fail
  have hg0 : Row (w.alloc (.cells (rowOf zeros) 5)) w.heap.size zeros := heap_alloc_new w _
  have k0 : Kept [] w (w.alloc (.cells (rowOf zeros) 5)) := Kept.of_alloc _ _ _
  clear hmk
  obtain ⟨g, hgg⟩ : ∃ g, g = w.heap.size := ⟨_, rfl⟩
  generalize hW : w.alloc (.cells (rowOf zeros) 5) = w0 at hg0 k0 ⊢
  clear hW
  rw [← hgg] at hg0 ⊢
  have hgw : w.heap.size ≤ g := by omega
  clear hgg
  have cP := put_any w0 g 0 8 128 zeros sq hg0 (by rw [zeros_sec.1]; decide) (by decide)
  refine cP.mono ?_
  rintro e w1 ⟨rfl, hg1, k1⟩
  clear cP
  have hlen : (lay zeros 0 (enc 8 sq)).length = 128 := by rw [lay_len _ _ _ (by rw [enc_len, zeros_sec.1]; decide), zeros_sec.1]
  have c8 := row_cell hg1 8 (by rw [hlen]; decide)
  have f8 := row_frozen hg1 8
  have hg2 : Row (w1.setCell ⟨g, 8, none⟩ (.int .u8 st)) g (markOf sq st) := by
    show (w1.setCell _ _).heap[g]? = _
    rw [heap_setCell_at _ hg1, row_set]; rfl
  have k2 : Kept [g] w0 (w1.setCell ⟨g, 8, none⟩ (.int .u8 st)) := k1.setCell (by simp) _
  have k2' : Kept [] w (w1.setCell ⟨g, 8, none⟩ (.int .u8 st)) := ⟨k2.os.trans k0.os, k2.tape.trans k0.tape, k2.output.trans k0.output, Nat.le_trans k0.size k2.size, fun k hk hs => (k2.block k (Nat.lt_of_lt_of_le hk k0.size) (by simp; omega)).trans (k0.block k hk hs)⟩
  have hgs : g ∉ [db, pb, mb] := by have := h.disk.dbl; have := h.disk.pbl; have := h.disk.mbl; simp; omega
  go_wp2_with fail
  generalize w1.setCell ⟨g, 8, none⟩ (.int .u8 st) = w2 at hg2 k2' ⊢
  clear c8 f8 k2 hg1 k1 hg0 k0
  have L2 := h.same k2'
  have hms := markOf_sec sq st h0 h1
  have cW := lwrite_any L2.disk hd lb L2.c0 0 (by omega) (markOf sq st) hms g 0 128 (row_range hg2) (by simp at hgs; omega) (by omega)
  have hsp : [DOp.w 0 (markOf sq st), .f] = [.w 0 (markOf sq st)] ++ [.f] := rfl
  obtain ⟨⟨σ1, ok1⟩, hr1⟩ : ∃ x, σ.run [.w 0 (markOf sq st)] = x := ⟨_, rfl⟩
  rw [hr1] at cW
  cases ok1 with
  | false =>
    simp only [endOf_false] at cW
    refine cW.mono ?_
    rintro e w3 ⟨rfl, d3, k3⟩
    refine died ?_
    rw [hsp, Dsk.run_two_dead _ hr1]
    exact ⟨rfl, (L2.turn k3 d3).mono (by omega), (k2'.mono (by simp)).trans k3⟩
  | true =>
    simp only [endOf_true] at cW
    refine cW.mono ?_
    rintro e w3 ⟨rfl, d3, k3⟩
    have L3 := L2.turn k3 d3
    have cF := lflush_any L3.disk ((Dsk.run_alive _ hr1).trans hd) lb L3.c0 (by omega)
    obtain ⟨⟨σ2, ok2⟩, hr2⟩ : ∃ x, σ1.run [.f] = x := ⟨_, rfl⟩
    rw [hr2] at cF
    clear cW
    cases ok2 with
    | false =>
      simp only [endOf_false] at cF
      go_wp2_with fail
      refine cF.mono ?_
      rintro e w4 ⟨rfl, d4, k4⟩
      refine died ?_
      rw [hsp, Dsk.run_two hr1, hr2]
      exact ⟨rfl, (L3.turn k4 d4).mono (by omega), ((k2'.mono (by simp)).trans k3).trans k4⟩
    | true =>
      simp only [endOf_true] at cF
      go_wp2_with fail
      refine cF.mono ?_
      rintro e w4 ⟨rfl, d4, k4⟩
      go_wp2
      go_end0
      rw [hsp, Dsk.run_two hr1, hr2]
      exact ⟨rfl, (L3.turn k4 d4).mono (by omega), ((k2'.mono (by simp)).trans k3).trans k4⟩

/-- The i-th number of a list. -/
def num (L : List Int) (i : Nat) : Nat := (le ((L.drop (9 + 2 * i)).take 2)).toNat
/-- What carry asks of the disk. -/
def carryOps (σ : Dsk) (L : List Int) (m : Nat) : List DOp := (List.range m).map fun i => .w (num L i) (σ.newest (2 + i))

namespace Dsk
theorem newest_w (σ : Dsk) (k j : Nat) (l : List Int) (h : j ≠ k) : (σ.ap (.w k l)).newest j = σ.newest j := by simp [newest, ap, h]
theorem newest_w_same (σ : Dsk) (k : Nat) (l : List Int) : (σ.ap (.w k l)).newest k = l := by simp [newest, ap]
theorem newest_f (σ : Dsk) (j : Nat) : (σ.ap .f).newest j = σ.newest j := by simp [newest, ap]
theorem run_one {σ σ1 : Dsk} {o : DOp} (h : σ.run [o] = (σ1, true)) : σ1 = σ.ap o := by
  by_cases hs : σ.left = 1
  · rw [run_stop hs] at h; cases h
  · rw [run_go hs, run_nil] at h; cases h; rfl
end Dsk
theorem carryOps_succ (σ : Dsk) (L : List Int) (m : Nat) : carryOps σ L (m + 1) = carryOps σ L m ++ [.w (num L m) (σ.newest (2 + m))] := by simp [carryOps, List.range_succ]
theorem carryOps_prefix (σ : Dsk) (L : List Int) : ∀ (d i : Nat), ∃ r, carryOps σ L (i + d) = carryOps σ L i ++ r
  | 0, i => ⟨[], by simp⟩
  | d + 1, i => by
    obtain ⟨r, hr⟩ := carryOps_prefix σ L d i
    exact ⟨r ++ [.w (num L (i + d)) (σ.newest (2 + (i + d)))], by rw [← Nat.add_assoc, carryOps_succ, hr, List.append_assoc]⟩
theorem carry_keeps (σ : Dsk) (L : List Int) : ∀ (i : Nat) (σ1 : Dsk), (∀ j, j < i → 42 ≤ num L j) → σ.run (carryOps σ L i) = (σ1, true) → ∀ k, k < 42 → σ1.newest k = σ.newest k
  | 0, σ1, _, h, k, _ => by simp [carryOps, Dsk.run] at h; rw [h]
  | i + 1, σ1, hn, h, k, hk => by
    rw [carryOps_succ] at h
    obtain ⟨⟨σ2, ok⟩, h2⟩ : ∃ x, σ.run (carryOps σ L i) = x := ⟨_, rfl⟩
    cases ok with
    | false => rw [Dsk.run_two_dead _ h2] at h; cases h
    | true =>
      rw [Dsk.run_two h2] at h
      rw [Dsk.run_one h, Dsk.newest_w _ _ _ _ (by have := hn i (by omega); omega)]
      exact carry_keeps σ L i σ2 (fun j hj => hn j (by omega)) h2 k hk

set_option maxHeartbeats 2000000 in
theorem carry_any (h : LogIs w lb db pb mb n B σ s) (hd : σ.dead = false) (hn : 42 < n) (hB : B < 700000) (g : Nat) (L : List Int) (hL : Sec L) (hg : Row w g L) (hgs : g ∉ [db, pb, mb]) (m : Nat) (hm : L.getD 8 0 = (m : Int)) (hm2 : m ≤ 40) (hnum : ∀ j, j < m → 42 ≤ num L j ∧ num L j < n) :
    Calls Try.prog 57 #[.pointer (some ⟨lb, 0, none⟩), .slice (some ⟨g, 0, none⟩) 128 128] w fun e w' =>
      e = endOf (σ.run (carryOps σ L m ++ [.f])).2 ∧ LogIs w' lb db pb mb n (B + 41) (σ.run (carryOps σ L m ++ [.f])).1 s ∧ Kept [db, pb, mb] w w' := by
  have c8 := row_cell hg 8 (by rw [hL.1]; decide)
  rw [hm] at c8
  have hmin : min (m : Int) 40 = m := by omega
  have hm3 : ¬ (m : Int) < 0 := by omega
  go_enter Try.func57, Try.ntmps57
  go_wp2_with fail
  go_loopw [10] (fun t wr => ∃ i : Int, 0 ≤ i ∧ i ≤ m ∧ t = .int .i64 i ∧ ∃ σi, σ.run (carryOps σ L i.toNat) = (σi, true) ∧ LogIs wr lb db pb mb n (B + i.toNat) σi s ∧ Kept [db, pb, mb] w wr) (fun t _ => m - (Go.RowKit.intOf t).toNat)
  case atStart => exact ⟨0, by omega, by omega, rfl, σ, rfl, h, Kept.refl _ _⟩
  case round =>
    obtain ⟨i, hi0, hi1, rfl, σi, hri, Li, ki⟩ := hrel
    have hdi := (Dsk.run_alive _ hri).trans hd
    by_cases hlt : i < m
    · have hgi : Row wr g L := hg.kept ki hgs
      obtain ⟨hnlo, hnhi⟩ := hnum i.toNat (by omega)
      have cN := number_any wr g i hi0 (by omega)
      have hlo := le_lo ((L.drop (9 + 2 * i.toNat)).take 2) (fun x hx => hL.2 x (List.mem_of_mem_drop (List.mem_of_mem_take hx)))
      have hle : le ((L.drop (9 + 2 * i.toNat)).take 2) = ((num L i.toNat : Nat) : Int) := by unfold num; omega
      have hnn := Li.disk.nhi
      have cG := get_any wr g (9 + 2 * i.toNat) 2 (119 - 2 * i.toNat) L hgi (by rw [hL.1]; omega) (by decide) hL.2 (by rw [hle]; omega)
      rw [hle] at cG
      have cR := lread_any Li.disk hdi lb Li.c0 (2 + i.toNat) (by omega)
      rw [show ((2 + i.toNat : Nat) : Int) = 2 + i by omega, carry_keeps σ L i.toNat σi (fun j hj => (hnum j (by omega)).1) hri (2 + i.toNat) (by omega)] at cR
      clear hnum c8 hm hlo hle
      go_wp2_with fail
      refine cN.mono ?_
      rintro e wn ⟨rfl, rfl⟩
      go_wp2_with fail
      refine cG.mono ?_
      rintro e wg ⟨rfl, rfl⟩
      go_wp2_with fail
      refine cR.mono ?_
      rintro e w1 ⟨g1, rfl, hg1, hr1, k1⟩
      clear cN cG cR
      have L1 := Li.same k1
      have hsec : Sec (σ.newest (2 + i.toNat)) := h.disk.sec _ (by omega)
      have cW := lwrite_any L1.disk hdi lb L1.c0 (num L i.toNat) hnhi (σ.newest (2 + i.toNat)) hsec g1 0 128 (row_range hr1) (by have := Li.disk.dbl; omega) (by omega)
      have hsu := carryOps_succ σ L i.toNat
      obtain ⟨⟨σ1, ok1⟩, hr2⟩ : ∃ x, σi.run [.w (num L i.toNat) (σ.newest (2 + i.toNat))] = x := ⟨_, rfl⟩
      rw [hr2] at cW
      have k01 := (ki.trans (k1.mono (by simp)))
      cases ok1 with
      | false =>
        have hall : σ.run (carryOps σ L m ++ [.f]) = (σ1, false) := by
          obtain ⟨r, hr⟩ := carryOps_prefix σ L (m - (i.toNat + 1)) (i.toNat + 1)
          rw [show i.toNat + 1 + (m - (i.toNat + 1)) = m by omega] at hr
          rw [hr, List.append_assoc, hsu, List.append_assoc, Dsk.run_two hri, Dsk.run_two_dead _ hr2]
        simp only [endOf_false] at cW
        clear hsu hri
        go_wp2_with fail
        refine cW.mono ?_
        rintro e w3 ⟨rfl, d3, k3⟩
        refine (show _ ∧ _ from ⟨rfl, ?_⟩)
        rw [hall]
        exact ⟨rfl, (L1.turn k3 d3).mono (by omega), k01.trans k3⟩
      | true =>
        simp only [endOf_true] at cW
        have hri' : σ.run (carryOps σ L (i + 1).toNat) = (σ1, true) := by
          rw [show (i + 1).toNat = i.toNat + 1 by omega, hsu, Dsk.run_two hri, hr2]
        clear hsu hri
        go_wp2_with fail
        refine cW.mono ?_
        rintro e w3 ⟨rfl, d3, k3⟩
        have L3 := (L1.turn k3 d3)
        rw [show B + i.toNat + 1 = B + (i + 1).toNat by omega] at L3
        have k03 := k01.trans k3
        clear cW d3 L1 k01 k3 k1 Li ki hr1
        go_wp2_with fail
        go_roundw
        case rel => exact ⟨i + 1, by omega, by omega, rfl, σ1, hri', L3, k03⟩
        case measure => simp [Go.RowKit.intOf]; omega
    · obtain rfl : i = m := by omega
      rw [Int.toNat_natCast] at hri Li
      have hall := Dsk.run_two (b := [.f]) hri
      have cF := lflush_any Li.disk hdi lb Li.c0 (by omega)
      obtain ⟨⟨σ2, ok2⟩, hr2⟩ : ∃ x, σi.run [.f] = x := ⟨_, rfl⟩
      rw [hr2] at cF hall
      clear hnum
      cases ok2 with
      | false =>
        simp only [endOf_false] at cF
        go_wp2_with fail
        refine cF.mono ?_
        rintro e w4 ⟨rfl, d4, k4⟩
        refine died ?_
        rw [hall]
        exact ⟨rfl, (Li.turn k4 d4).mono (by omega), ki.trans k4⟩
      | true =>
        simp only [endOf_true] at cF
        go_wp2_with fail
        refine cF.mono ?_
        rintro e w4 ⟨rfl, d4, k4⟩
        go_wp2
        go_end0
        rw [hall]
        exact ⟨rfl, (Li.turn k4 d4).mono (by omega), ki.trans k4⟩

set_option maxHeartbeats 2000000 in
/-- settle, where nothing is due. -/
theorem settle_idle (h : LogIs w lb db pb mb n B σ s) (hd : σ.dead = false) (hn : 42 < n) (hi : (σ.newest 0).getD 8 0 ≠ 1) (h63 : le ((σ.newest 0).take 8) < 9223372036854775808) :
    Calls Try.prog 44 #[.pointer (some ⟨lb, 0, none⟩)] w fun e w' =>
      e = endOf true ∧ LogIs w' lb db pb mb n B σ (le ((σ.newest 0).take 8)) ∧ Kept [lb] w w' := by
  have cR := lread_any h.disk hd lb h.c0 0 (by omega)
  have hs := h.disk.sec 0 (by omega)
  generalize σ.newest 0 = M at cR hs hi h63 ⊢
  obtain ⟨v, hv⟩ : ∃ v, le (M.take 8) = v := ⟨_, rfl⟩
  rw [hv] at h63 ⊢
  go_enter Try.func44, Try.ntmps44
  go_wp2_with fail
  refine cR.mono ?_
  rintro e w1 ⟨g, rfl, hg, hr, k1⟩
  clear cR
  have L1 := h.same k1
  have cG := get_any w1 g 0 8 128 M hr (by rw [hs.1]; decide) (by decide) hs.2 (by rw [List.drop_zero, hv]; exact h63)
  rw [List.drop_zero, hv] at cG
  go_wp2_with fail
  refine cG.mono ?_
  rintro e wg ⟨rfl, rfl⟩
  clear cG
  have f2 := L1.fz 2
  have c2 := L1.c2
  have L2 := L1.set_seq v
  have hgl : g ≠ lb := by have := h.lbl; omega
  have k2 : Kept [lb] w (wg.setCell ⟨lb, 2, none⟩ (.int .i64 (v))) := (k1.mono (by simp)).setCell (by simp) _
  have hr2 : Row (wg.setCell ⟨lb, 2, none⟩ (.int .i64 (v))) g M := hr.kept (S := [lb]) ((Kept.refl _ _).setCell (by simp) _) (by simpa using hgl)
  have c8 := row_cell hr2 8 (by rw [hs.1]; decide)
  generalize hW : wg.setCell ⟨lb, 2, none⟩ (.int .i64 v) = w2 at L2 k2 hr2 c8
  have hi' : (M.getD 8 0 == 1) = false := by simpa using hi
  generalize M.getD 8 0 = x at *
  clear hr2 hr hi
  go_wp2_with fail
  go_end0
  exact ⟨rfl, L2, k2⟩

/-- What settle asks of the disk where a commit is due. -/
def dueOps (σ : Dsk) (L : List Int) (m : Nat) : List DOp := carryOps σ L m ++ [.f] ++ [.w 0 (markOf (le (L.take 8)) 0), .f]

set_option maxHeartbeats 2000000 in
/-- settle, where a commit is due. -/
theorem settle_due (h : LogIs w lb db pb mb n B σ s) (hd : σ.dead = false) (hn : 42 < n) (hB : B < 600000) (hi : (σ.newest 0).getD 8 0 = 1) (h63 : le ((σ.newest 0).take 8) < 9223372036854775808)
    (m : Nat) (hm : (σ.newest 1).getD 8 0 = (m : Int)) (hm2 : m ≤ 40) (hL63 : le ((σ.newest 1).take 8) < 9223372036854775808) (hnum : ∀ j, j < m → 42 ≤ num (σ.newest 1) j ∧ num (σ.newest 1) j < n) :
    Calls Try.prog 44 #[.pointer (some ⟨lb, 0, none⟩)] w fun e w' =>
      e = endOf (σ.run (dueOps σ (σ.newest 1) m)).2 ∧ LogIs w' lb db pb mb n (B + 43) (σ.run (dueOps σ (σ.newest 1) m)).1 (le ((σ.newest 1).take 8)) ∧ Kept [db, pb, mb, lb] w w' := by
  have cR := lread_any h.disk hd lb h.c0 0 (by omega)
  have hs := h.disk.sec 0 (by omega)
  have hsL := h.disk.sec 1 (by omega)
  have cR1 : ∀ {W : World}, LogIs W lb db pb mb n B σ (le ((σ.newest 0).take 8)) → _ := fun {W} LW => lread_any LW.disk hd lb LW.c0 1 (by omega)
  generalize σ.newest 0 = M at cR hs hi h63 cR1
  generalize σ.newest 1 = L at *
  obtain ⟨v, hv⟩ : ∃ v, le (M.take 8) = v := ⟨_, rfl⟩
  obtain ⟨v2, hv2⟩ : ∃ v2, le (L.take 8) = v2 := ⟨_, rfl⟩
  have cd : dueOps σ L m = carryOps σ L m ++ [.f] ++ [.w 0 (markOf v2 0), .f] := by rw [← hv2]; rfl
  rw [hv2, cd]
  rw [hv] at h63 cR1
  rw [hv2] at hL63
  clear cd
  go_enter Try.func44, Try.ntmps44
  go_wp2_with fail
  refine cR.mono ?_
  rintro e w1 ⟨g, rfl, hg, hr, k1⟩
  clear cR
  have L1 := h.same k1
  have cG := get_any w1 g 0 8 128 M hr (by rw [hs.1]; decide) (by decide) hs.2 (by rw [List.drop_zero, hv]; exact h63)
  rw [List.drop_zero, hv] at cG
  go_wp2_with fail
  refine cG.mono ?_
  rintro e wg ⟨rfl, rfl⟩
  clear cG
  have f2 := L1.fz 2
  have c2 := L1.c2
  have L2 := L1.set_seq v
  have hgl : g ≠ lb := by have := h.lbl; omega
  have k2 : Kept [lb] w (wg.setCell ⟨lb, 2, none⟩ (.int .i64 (v))) := (k1.mono (by simp)).setCell (by simp) _
  have hr2 : Row (wg.setCell ⟨lb, 2, none⟩ (.int .i64 (v))) g M := hr.kept (S := [lb]) ((Kept.refl _ _).setCell (by simp) _) (by simpa using hgl)
  have c8 := row_cell hr2 8 (by rw [hs.1]; decide)
  rw [hi] at c8
  generalize hW : wg.setCell ⟨lb, 2, none⟩ (.int .i64 v) = w2 at L2 k2 hr2 c8
  clear hr2 hr hi
  have c1 := cR1 L2
  clear cR1
  go_wp2_with fail
  refine c1.mono ?_
  rintro e w3 ⟨g3, rfl, hg3, hr3, k3⟩
  clear c1 hW f2 c2
  have L3 := L2.same k3
  have cG := get_any w3 g3 0 8 128 L hr3 (by rw [hsL.1]; decide) (by decide) hsL.2 (by rw [List.drop_zero, hv2]; exact hL63)
  rw [List.drop_zero, hv2] at cG
  go_wp2_with fail
  refine cG.mono ?_
  rintro e wg4 ⟨rfl, rfl⟩
  clear cG
  have f2 := L3.fz 2
  have c2 := L3.c2
  have L4 := L3.set_seq v2
  have k4 : Kept [lb] w (wg4.setCell ⟨lb, 2, none⟩ (.int .i64 (v2))) := (k2.trans (k3.mono (by simp))).setCell (by simp) _
  have hg3s : w.heap.size ≤ g3 := by have := k2.size; omega
  have hgl3 : g3 ≠ lb := by have := h.lbl; omega
  have hr4 : Row (wg4.setCell ⟨lb, 2, none⟩ (.int .i64 (v2))) g3 L := hr3.kept (S := [lb]) ((Kept.refl _ _).setCell (by simp) _) (by simpa using hgl3)
  generalize hW : wg4.setCell ⟨lb, 2, none⟩ (.int .i64 v2) = w5 at L4 k4 hr4
  have c52 := L4.c2
  have cC := carry_any L4 hd hn (by omega) g3 L hsL hr4 (by have := h.disk.dbl; have := h.disk.pbl; have := h.disk.mbl; simp; omega) m hm hm2 hnum
  clear hnum hm hr4 hr3
  go_wp2_with fail
  obtain ⟨⟨σ1, ok1⟩, hr1⟩ : ∃ x, σ.run (carryOps σ L m ++ [.f]) = x := ⟨_, rfl⟩
  rw [hr1] at cC
  cases ok1 with
  | false =>
    simp only [endOf_false] at cC
    refine cC.mono ?_
    rintro e w6 ⟨rfl, L6, k6⟩
    refine (show _ ∧ _ from ⟨rfl, ?_⟩)
    rw [Dsk.run_two_dead _ hr1]
    exact ⟨rfl, L6.mono (by omega), (k4.mono (by simp)).trans (k6.mono (by simp))⟩
  | true =>
    simp only [endOf_true] at cC
    refine cC.mono ?_
    rintro e w6 ⟨rfl, L6, k6⟩
    have c62 := L6.c2
    have cM := mark_any L6 ((Dsk.run_alive _ hr1).trans hd) hn (by omega) v2 0 (by decide) (by decide)
    obtain ⟨⟨σ2, ok2⟩, hr2⟩ : ∃ x, σ1.run [.w 0 (markOf v2 0), .f] = x := ⟨_, rfl⟩
    rw [hr2] at cM
    clear cC hW f2 c2
    have hfin : σ.run (carryOps σ L m ++ [.f] ++ [.w 0 (markOf v2 0), .f]) = (σ2, ok2) := by rw [Dsk.run_two hr1, hr2]
    have kf := (k4.mono (T := [db, pb, mb, lb]) (by simp)).trans (k6.mono (by simp))
    go_wp2_with fail
    cases ok2 with
    | false =>
      simp only [endOf_false] at cM
      refine cM.mono ?_
      rintro e w7 ⟨rfl, L7, k7⟩
      refine (show _ ∧ _ from ⟨rfl, ?_⟩)
      rw [hfin]
      exact ⟨rfl, L7.mono (by omega), kf.trans (k7.mono (by simp))⟩
    | true =>
      simp only [endOf_true] at cM
      refine cM.mono ?_
      rintro e w7 ⟨rfl, L7, k7⟩
      go_wp2
      go_end0
      rw [hfin]
      exact ⟨rfl, L7.mono (by omega), kf.trans (k7.mono (by simp))⟩
end
end Go.Proofs.Ytgjnlocokkjejaa
