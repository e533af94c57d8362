/-
  PACKAGE wal's enter and commit: what they ask of the disk, one after another.
-/
import Derived.Test.YtgjnlocokkjejaaWalSettle
namespace Go.Proofs.Ytgjnlocokkjejaa
open Go.RowKit Go.Maps

/-- A sector's new bytes: its number, they themselves, and where they lie. -/
structure PutV where
  N : Nat
  bytes : List Int
  b : Nat
  o : Nat
  cap : Nat

abbrev zPV : PutV := ⟨0, [], 0, 0, 0⟩

/-- A list of them in memory. -/
def PutsAt (w : World) (pk : Nat) (ps : List PutV) : Prop := pk < w.heap.size ∧ ∀ j x, ps[j]? = some x → w.cell? ⟨pk, j * 2, none⟩ = some (.int .i64 (x.N : Int)) ∧ w.cell? ⟨pk, j * 2 + 1, none⟩ = some (.slice (some ⟨x.b, x.o, none⟩) 128 x.cap) ∧ w.rangeAt x.b x.o (cellsOf x.bytes) ∧ Sec x.bytes

theorem PutsAt.kept {S : List Nat} {w w' : World} {pk : Nat} {ps : List PutV} (h : PutsAt w pk ps) (k : Kept S w w') (hp : pk ∉ S) (hb : ∀ x ∈ ps, x.b ∉ S) : PutsAt w' pk ps := by
  refine ⟨Nat.lt_of_lt_of_le h.1 k.size, fun j x hx => ?_⟩
  obtain ⟨h1, h2, h3, h4⟩ := h.2 j x hx
  have hl : x.b < w.heap.size := range_lt h3 (by rw [h4.1]; decide)
  exact ⟨(World.cell?_of_block (k.block pk h.1 hp)).trans h1, (World.cell?_of_block (k.block pk h.1 hp)).trans h2, rangeAt_of_block (k.block x.b hl (hb x (List.mem_of_getElem? hx))) h3, h4⟩

/-- The list's bytes. -/
def listTo (s : Int) (ps : List PutV) : Nat → List Int
  | 0 => (lay zeros 0 (enc 8 s)).set 8 (ps.length : Int)
  | i + 1 => lay (listTo s ps i) (9 + 2 * i) (enc 2 ((ps.getD i zPV).N : Int))
theorem listTo_len (s : Int) (ps : List PutV) : ∀ i, i ≤ 40 → (listTo s ps i).length = 128
  | 0, _ => by rw [listTo, List.length_set, lay_len _ _ _ (by rw [enc_len, zeros_sec.1]; decide), zeros_sec.1]
  | i + 1, h => by rw [listTo, lay_len _ _ _ (by rw [enc_len, listTo_len s ps i (by omega)]; omega), listTo_len s ps i (by omega)]
theorem listTo_sec (s : Int) (ps : List PutV) (hp : ps.length ≤ 40) : ∀ i, i ≤ 40 → Sec (listTo s ps i)
  | 0, h => by
    refine ⟨listTo_len s ps 0 h, fun x hx => ?_⟩
    rcases List.mem_or_eq_of_mem_set hx with hx | rfl
    · exact lay_ok _ _ _ zeros_sec.2 (enc_ok 8 s) x hx
    · omega
  | i + 1, h => ⟨listTo_len s ps (i + 1) h, lay_ok _ _ _ (listTo_sec s ps hp i (by omega)).2 (enc_ok 2 _)⟩

def dataOps (ps : List PutV) (i : Nat) : List DOp := (List.range i).map fun j => .w (2 + j) (ps.getD j zPV).bytes
theorem dataOps_succ (ps : List PutV) (m : Nat) : dataOps ps (m + 1) = dataOps ps m ++ [.w (2 + m) (ps.getD m zPV).bytes] := by simp [dataOps, List.range_succ]
theorem dataOps_prefix (ps : List PutV) : ∀ (d i : Nat), ∃ r, dataOps ps (i + d) = dataOps ps i ++ r
  | 0, i => ⟨[], by simp⟩
  | d + 1, i => by
    obtain ⟨r, hr⟩ := dataOps_prefix ps d i
    exact ⟨r ++ [.w (2 + (i + d)) (ps.getD (i + d) zPV).bytes], by rw [← Nat.add_assoc, dataOps_succ, hr, List.append_assoc]⟩
/-- What enter asks of the disk. -/
def enterOps (s : Int) (ps : List PutV) : List DOp := dataOps ps ps.length ++ ([.w 1 (listTo s ps ps.length)] ++ [.f])

section
variable {w w' : World} {lb db pb mb n B B' : Nat} {σ σ' : Dsk} {s : Int}
set_option maxHeartbeats 2000000 in
theorem enter_any (h : LogIs w lb db pb mb n B σ s) (hd : σ.dead = false) (hn : 42 < n) (hB : B < 600000) (pk cap : Nat) (ps : List PutV) (hp : PutsAt w pk ps) (hpk : pk ∉ [db, pb, mb, lb]) (hpb : ∀ x ∈ ps, x.b ∉ [db, pb, mb, lb]) (hm : ps.length ≤ 40) (hs0 : 0 ≤ s) (hs1 : s < 1000000) :
    Calls Try.prog 61 #[.pointer (some ⟨lb, 0, none⟩), .slice (some ⟨pk, 0, none⟩) ps.length cap] w fun e w' =>
      e = endOf (σ.run (enterOps (s + 1) ps)).2 ∧ LogIs w' lb db pb mb n (B + 42) (σ.run (enterOps (s + 1) ps)).1 s ∧ Kept [db, pb, mb] w w' := by
  obtain ⟨m, hml⟩ : ∃ m, ps.length = m := ⟨_, rfl⟩
  have hmk := make_bytes
  have c2 := h.c2
  rw [hml] at hm ⊢
  go_enter Try.func61, Try.ntmps61
  go_wp2_with fail
  have hg0 : Row (w.alloc (.cells (rowOf zeros) 5)) w.heap.size zeros := heap_alloc_new w _
  have k0 : Kept [] w (w.alloc (.cells (rowOf zeros) 5)) := Kept.of_alloc _ _ _
  clear hmk
  obtain ⟨g, hgg⟩ : ∃ g, g = w.heap.size := ⟨_, rfl⟩
  generalize hW : w.alloc (.cells (rowOf zeros) 5) = w0 at hg0 k0 ⊢
  clear hW
  rw [← hgg] at hg0 ⊢
  have hgw : w.heap.size ≤ g := by omega
  clear hgg
  have L0 := h.same k0
  have c2d : w0.drew.cell? ⟨lb, 2, none⟩ = some (.int .i64 s) := L0.c2
  have cP := fun v => put_any w0.drew g 0 8 128 zeros v hg0 (by rw [zeros_sec.1]; decide) (by decide)
  have hgl : lb ∉ [g] := by have := h.lbl; simp; omega
  have k0d : Kept [] w w0.drew := k0.drew
  have hlw : lb < w0.drew.heap.size := L0.lbl
  clear L0 c2 k0 hg0
  go_region_held3 (fun W => W.cell? ⟨lb, 2, none⟩ = some (.int .i64 s)) (first | exact c2d | exact hS1) (first
    | (go_at_call 69
       refine (cP _).mono ?_
       rintro e w1 ⟨rfl, hg1, k1⟩
       have hS1 : w1.cell? ⟨lb, 2, none⟩ = some (.int .i64 s) := (World.cell?_of_block (k1.block lb hlw hgl)).trans c2d)
    | fail)
  have hwr : IntKind.i64.wrap (s + 1) = s + 1 := by rw [IntKind.wrap_i64]; omega
  rw [hwr] at hg1
  clear cP c2d hS1 hwr
  have hlen : (lay zeros 0 (enc 8 (s + 1))).length = 128 := by rw [lay_len _ _ _ (by rw [enc_len, zeros_sec.1]; decide), zeros_sec.1]
  have c8 := row_cell hg1 8 (by rw [hlen]; decide)
  have f8 := row_frozen hg1 8
  have hg2 : Row (w1.setCell ⟨g, 8, none⟩ (.int .u8 (m : Int))) g (listTo (s + 1) ps 0) := by
    show (w1.setCell _ _).heap[g]? = _
    rw [heap_setCell_at _ hg1, row_set, ← hml]; rfl
  have k2 : Kept [g] w0.drew (w1.setCell ⟨g, 8, none⟩ (.int .u8 (m : Int))) := k1.setCell (by simp) _
  have k2' : Kept [] w (w1.setCell ⟨g, 8, none⟩ (.int .u8 (m : Int))) := ⟨k2.os.trans k0d.os, k2.tape.trans k0d.tape, k2.output.trans k0d.output, Nat.le_trans k0d.size k2.size, fun k hk hs => (k2.block k (Nat.lt_of_lt_of_le hk k0d.size) (by simp; omega)).trans (k0d.block k hk hs)⟩
  have hgs : g ∉ [db, pb, mb] := by have := h.disk.dbl; have := h.disk.pbl; have := h.disk.mbl; simp; omega
  have hmw : (m : Int) % 256 = m := by omega
  clear k2 hg1 k1 k0d hlw
  go_wp2_with fail
  generalize w1.setCell ⟨g, 8, none⟩ (.int .u8 (m : Int)) = w2 at hg2 k2' ⊢
  clear c8 f8 hmw hlen
  have L2 := h.same k2'
  go_loopw [23] (fun t wr => ∃ i : Int, 0 ≤ i ∧ i ≤ m ∧ t = .int .i64 i ∧ ∃ σi, σ.run (dataOps ps i.toNat) = (σi, true) ∧ LogIs wr lb db pb mb n (B + i.toNat) σi s ∧ Row wr g (listTo (s + 1) ps i.toNat) ∧ Kept [db, pb, mb] w wr) (fun t _ => m - (Go.RowKit.intOf t).toNat)
  case atStart => exact ⟨0, by omega, by omega, rfl, σ, rfl, L2, hg2, k2'.mono (by simp)⟩
  case round =>
    obtain ⟨i, hi0, hi1, rfl, σi, hri, Li, hgi, ki⟩ := hrel
    have hdi := (Dsk.run_alive _ hri).trans hd
    clear hg2 k2' L2
    by_cases hlt : i < m
    · obtain ⟨x, hx⟩ : ∃ x, ps[i.toNat]? = some x := ⟨_, List.getElem?_eq_getElem (by omega)⟩
      have hpi := hp.kept ki (by simp at hpk ⊢; omega) (fun x hx => by have := hpb x hx; simp at this ⊢; omega)
      obtain ⟨p0, p1, p2, p3⟩ := hpi.2 i.toNat x hx
      have hxd : ps.getD i.toNat zPV = x := by simp [List.getD, hx]
      go_wp2_with fail
      have hba : (wr.alloc (.cells #[.int .i64 (x.N : Int), .slice (some ⟨x.b, x.o, none⟩) 128 x.cap] 69)).heap[wr.heap.size]? = some (.cells #[.int .i64 (x.N : Int), .slice (some ⟨x.b, x.o, none⟩) 128 x.cap] 69 (0, 0)) := heap_alloc_new wr _
      have kA : Kept [] wr (wr.alloc (.cells #[.int .i64 (x.N : Int), .slice (some ⟨x.b, x.o, none⟩) 128 x.cap] 69)) := Kept.of_alloc _ _ _
      have hbl := hgi.lt
      have hbxl : wr.heap.size ∉ [db, pb, mb, g] := by have := Li.disk.dbl; have := Li.disk.pbl; have := Li.disk.mbl; simp; omega
      obtain ⟨bx, hbx⟩ : ∃ bx, bx = wr.heap.size := ⟨_, rfl⟩
      have hbxw : wr.heap.size ≤ bx := by omega
      rw [← hbx] at hba hbxl ⊢
      clear hbx
      generalize wr.alloc (.cells #[.int .i64 (x.N : Int), .slice (some ⟨x.b, x.o, none⟩) 128 x.cap] 69) = wa at hba kA ⊢
      have kD := kA.drew
      have LA := Li.same kD
      have hgA : Row wa.drew g (listTo (s + 1) ps i.toNat) := hgi.kept kD (by simp)
      have b0 : wa.drew.cell? ⟨bx, 0, none⟩ = some (.int .i64 (x.N : Int)) := by
        show wa.cell? _ = _
        simp [World.cell?, hba]
      have hbd : wa.drew.heap[bx]? = some (.cells #[.int .i64 (x.N : Int), .slice (some ⟨x.b, x.o, none⟩) 128 x.cap] 69 (0, 0)) := hba
      have hbxl2 : bx < wa.drew.heap.size := (Array.getElem?_eq_some_iff.1 hbd).1
      have cN := number_any wa.drew g i hi0 (by omega)
      have cP := fun v => put_any wa.drew g (9 + 2 * i.toNat) 2 (119 - 2 * i.toNat) (listTo (s + 1) ps i.toNat) v hgA (by rw [listTo_len _ _ _ (by omega)]; omega) (by decide)
      clear p0 p1 hba kA hgi
      go_region_held3 (fun W => W.cell? ⟨bx, 0, none⟩ = some (.int .i64 (x.N : Int))) (first | exact b0 | exact hS1) (first
        | (go_at_call 67
           refine cN.mono ?_
           rintro e wn ⟨rfl, rfl⟩)
        | (go_at_call 69
           refine (cP _).mono ?_
           rintro e w3 ⟨rfl, hg3, k3⟩
           have hS1 : w3.cell? ⟨bx, 0, none⟩ = some (.int .i64 (x.N : Int)) := (World.cell?_of_block (k3.block bx hbxl2 (by simp at hbxl ⊢; omega))).trans b0)
        | fail)
      clear cN cP
      have k3' : Kept [g] wr w3 := (kD.mono (by simp)).trans k3
      have L3 : LogIs w3 lb db pb mb n (B + i.toNat) σi s := Li.kept k3' hgl (by simp at hgs ⊢; omega) (by simp at hgs ⊢; omega) (by simp at hgs ⊢; omega)
      have hb3 : w3.heap[bx]? = some (.cells #[.int .i64 (x.N : Int), .slice (some ⟨x.b, x.o, none⟩) 128 x.cap] 69 (0, 0)) := (k3.block bx hbxl2 (by simp at hbxl ⊢; omega)).trans hbd
      have b1 : w3.cell? ⟨bx, 1, none⟩ = some (.slice (some ⟨x.b, x.o, none⟩) 128 x.cap) := by simp [World.cell?, hb3]
      have hxb := hpb x (List.mem_of_getElem? hx)
      have hxl : x.b < w.heap.size := range_lt (hp.2 i.toNat x hx).2.2.1 (by rw [p3.1]; decide)
      have p2' : w3.rangeAt x.b x.o (cellsOf x.bytes) := rangeAt_of_block (k3'.block x.b (by have := ki.size; omega) (by simp; omega)) p2
      have hg3' : Row w3 g (listTo (s + 1) ps (i + 1).toNat) := by
        rw [show (i + 1).toNat = i.toNat + 1 by omega, listTo, hxd]
        exact hg3
      have k03 : Kept [db, pb, mb, g] w w3 := (ki.mono (by simp)).trans (k3'.mono (by simp))
      have kw3 : Kept [db, pb, mb] w w3 := ⟨k03.os, k03.tape, k03.output, k03.size, fun k hk hs => k03.block k hk (by simp at hs ⊢; omega)⟩
      have cW := lwrite_any L3.disk hdi lb L3.c0 (2 + i.toNat) (by omega) x.bytes p3 x.b x.o x.cap p2' (by simp at hxb; omega) (by omega)
      rw [show ((2 + i.toNat : Nat) : Int) = 2 + i by omega] at cW
      have hsu := dataOps_succ ps i.toNat
      rw [hxd] at hsu
      obtain ⟨⟨σ1, ok1⟩, hr2⟩ : ∃ y, σi.run [.w (2 + i.toNat) x.bytes] = y := ⟨_, rfl⟩
      rw [hr2] at cW
      clear hb3 hbd hS1 b0 hgA LA kD k3 hg3 p2 hpi
      cases ok1 with
      | false =>
        have hall : σ.run (enterOps (s + 1) ps) = (σ1, false) := by
          obtain ⟨r, hr⟩ := dataOps_prefix ps (m - (i.toNat + 1)) (i.toNat + 1)
          rw [show i.toNat + 1 + (m - (i.toNat + 1)) = m by omega] at hr
          rw [enterOps, hml, hr, List.append_assoc, hsu, List.append_assoc, Dsk.run_two hri, Dsk.run_two_dead _ hr2]
        simp only [endOf_false] at cW
        clear hsu hri hx hxd hml
        go_wp2_with fail
        refine cW.mono ?_
        rintro e w5 ⟨rfl, d5, k5⟩
        refine (show _ ∧ _ from ⟨rfl, ?_⟩)
        rw [hall]
        exact ⟨rfl, (L3.turn k5 d5).mono (by omega), kw3.trans k5⟩
      | true =>
        simp only [endOf_true] at cW
        have hri' : σ.run (dataOps ps (i + 1).toNat) = (σ1, true) := by
          rw [show (i + 1).toNat = i.toNat + 1 by omega, hsu, Dsk.run_two hri, hr2]
        clear hsu hri hx hxd
        go_wp2_with fail
        refine cW.mono ?_
        rintro e w5 ⟨rfl, d5, k5⟩
        have L5 := (L3.turn k5 d5)
        rw [show B + i.toNat + 1 = B + (i + 1).toNat by omega] at L5
        have k05 := kw3.trans k5
        have hg5 := hg3'.kept k5 hgs
        clear cW d5 L3 k03 k5 Li ki hg3' kw3 k3' p2' b1
        go_wp2_with fail
        go_roundw
        case rel => exact ⟨i + 1, by omega, by omega, rfl, σ1, hri', L5, hg5, k05⟩
        case measure => simp [Go.RowKit.intOf]; omega
    · obtain rfl : i = m := by omega
      rw [Int.toNat_natCast] at hri Li hgi
      have hls := listTo_sec (s + 1) ps (by omega) m hm
      have cW := lwrite_any Li.disk hdi lb Li.c0 1 (by omega) (listTo (s + 1) ps m) hls g 0 128 (row_range hgi) (by simp at hgs; omega) (by omega)
      have hall : σ.run (enterOps (s + 1) ps) = σi.run ([.w 1 (listTo (s + 1) ps m)] ++ [.f]) := by rw [enterOps, hml, Dsk.run_two hri]
      obtain ⟨⟨σ1, ok1⟩, hr1⟩ : ∃ y, σi.run [.w 1 (listTo (s + 1) ps m)] = y := ⟨_, rfl⟩
      rw [hr1] at cW
      clear hri hml
      cases ok1 with
      | false =>
        rw [Dsk.run_two_dead _ hr1] at hall
        simp only [endOf_false] at cW
        go_wp2_with fail
        refine cW.mono ?_
        rintro e w3 ⟨rfl, d3, k3⟩
        refine (show _ ∧ _ from ⟨rfl, ?_⟩)
        rw [hall]
        exact ⟨rfl, (Li.turn k3 d3).mono (by omega), ki.trans k3⟩
      | true =>
        rw [Dsk.run_two hr1] at hall
        simp only [endOf_true] at cW
        go_wp2_with fail
        refine cW.mono ?_
        rintro e w3 ⟨rfl, d3, k3⟩
        have L3 := Li.turn k3 d3
        have cF := lflush_any L3.disk ((Dsk.run_alive _ hr1).trans hdi) lb L3.c0 (by omega)
        obtain ⟨⟨σ2, ok2⟩, hr2⟩ : ∃ y, σ1.run [.f] = y := ⟨_, rfl⟩
        rw [hr2] at cF hall
        clear cW
        cases ok2 with
        | false =>
          simp only [endOf_false] at cF
          go_wp2_with fail
          refine cF.mono ?_
          rintro e w4 ⟨rfl, d4, k4⟩
          refine (show _ ∧ _ from ⟨rfl, ?_⟩)
          rw [hall]
          exact ⟨rfl, (L3.turn k4 d4).mono (by omega), (ki.trans k3).trans k4⟩
        | true =>
          simp only [endOf_true] at cF
          go_wp2_with fail
          refine cF.mono ?_
          rintro e w4 ⟨rfl, d4, k4⟩
          go_wp2
          go_end0
          rw [hall]
          exact ⟨rfl, (L3.turn k4 d4).mono (by omega), (ki.trans k3).trans k4⟩
end
end Go.Proofs.Ytgjnlocokkjejaa
