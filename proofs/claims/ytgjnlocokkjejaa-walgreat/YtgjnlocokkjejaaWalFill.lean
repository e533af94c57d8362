/-
  SECTORS OF A BYTE, THE FIRST BYTES AS ANOTHER ROW HAS THEM (the laws' fill); texts as bytes.
-/
import Derived.Test.YtgjnlocokkjejaaWalHeads
import Derived.Lib.ConvBytes
namespace Go.Proofs.Ytgjnlocokkjejaa
open Go.RowKit Go.Maps

theorem text_fold (l : List Int) : ∀ r : ByteArray, (l.foldl (fun r n => r.push (UInt8.ofNat n.toNat)) r).data.toList = r.data.toList ++ l.map (fun n => UInt8.ofNat n.toNat) := by
  induction l with
  | nil => intro r; simp
  | cons a t ih =>
    intro r
    rw [List.foldl_cons, ih]
    simp [ByteArray.push]
theorem text_data (l : List Int) : (textOf l).data.toList = l.map (fun n => UInt8.ofNat n.toNat) := by
  unfold textOf
  rw [text_fold]
  rfl
theorem text_size (l : List Int) : (textOf l).size = l.length := by
  have := congrArg List.length (text_data l)
  simpa using this
theorem byte_back (x : Int) (h0 : 0 ≤ x) (h1 : x < 256) : ((UInt8.ofNat x.toNat).toNat : Int) = x := by
  rw [UInt8.toNat_ofNat']
  omega
/-- Bytes that have the same text are the same. -/
theorem text_inj {a b : List Int} (ha : ∀ x ∈ a, 0 ≤ x ∧ x < 256) (hb : ∀ x ∈ b, 0 ≤ x ∧ x < 256) (h : textOf a = textOf b) : a = b := by
  have h1 : a.map (fun n => UInt8.ofNat n.toNat) = b.map (fun n => UInt8.ofNat n.toNat) := by rw [← text_data, ← text_data, h]
  have back : ∀ l : List Int, (∀ x ∈ l, 0 ≤ x ∧ x < 256) → (l.map (fun n => UInt8.ofNat n.toNat)).map (fun u => (u.toNat : Int)) = l := by
    intro l hl
    rw [List.map_map]
    conv => rhs; rw [← List.map_id l]
    apply List.map_congr_left
    intro x hx
    exact byte_back x (hl x hx).1 (hl x hx).2
  rw [← back a ha, ← back b hb, h1]

/-- A block of cells of a type. -/
def BlockTy (w : World) (b : Nat) (t : TypeId) : Prop := ∃ c fr, w.heap[b]? = some (.cells c t fr)
theorem BlockTy.lt {w : World} {b : Nat} {t : TypeId} (h : BlockTy w b t) : b < w.heap.size := by
  obtain ⟨c, fr, h⟩ := h
  exact (Array.getElem?_eq_some_iff.1 h).1
theorem BlockTy.kept {S : List Nat} {w w' : World} {b : Nat} {t : TypeId} (h : BlockTy w b t) (k : Kept S w w') (hb : b ∉ S) : BlockTy w' b t := by
  have hl := h.lt
  obtain ⟨c, fr, h⟩ := h
  exact ⟨c, fr, (k.block b hl hb).trans h⟩
theorem BlockTy.ne {w : World} {a b : Nat} {s t : TypeId} (h : BlockTy w a s) (k : BlockTy w b t) (hst : s ≠ t) : a ≠ b := by
  rintro rfl
  obtain ⟨c, fr, h⟩ := h
  obtain ⟨d, fs, k⟩ := k
  rw [h] at k
  cases k
  exact hst rfl
/-- A text as bytes, in a row of its own. -/
theorem conv_bytes (w : World) (l : List Int) (hl : Sec l) : ∃ cap W, (convert 9 31 (.string (textOf l))).run Try.prog w = .ok (.slice (some ⟨w.heap.size, 0, none⟩) 128 cap) W ∧ W.rangeAt w.heap.size 0 (cellsOf l) ∧ BlockTy W w.heap.size 5 ∧ Kept [] w W := by
  have hr := Go.Lib.run_convert_string_bytes (P := Try.prog) w 9 31 5 (textOf l) Try.underlying9 Try.underlying31 Try.underlying5
  rw [text_size, hl.1] at hr
  refine ⟨_, _, hr, fun j v hv => ?_, ⟨_, _, Go.Lib.bytesWorld_at_new w _ _⟩, ⟨rfl, rfl, rfl, by rw [Go.Lib.bytesWorld_size]; omega, fun k hk _ => Go.Lib.bytesWorld_at_old w _ _ k hk⟩⟩
  have hj : j < l.length := by have := (List.getElem?_eq_some_iff.1 hv).1; rwa [cells_len] at this
  rw [Nat.zero_add, Go.Lib.bytesWorld_cell w _ _ j (by rw [text_size]; exact hj), text_data, ← hv]
  have hx := hl.2 l[j] (List.getElem_mem hj)
  simp [cellsOf, List.getD, hj]
  have := byte_back l[j] hx.1 hx.2
  simpa using this

/-- Bytes that came in. -/
def RawAt (w : World) (a : Option Addr) (len : Nat) (R : List Int) : Prop :=
  R.length = len ∧ (∀ x ∈ R, 0 ≤ x ∧ x < 256) ∧ (0 < len → ∃ x, a = some x ∧ ∀ j, j < len → w.cell? (x.add j) = some (.int .u8 (R.getD j 0)))
theorem RawAt.kept {w w' : World} {a : Option Addr} {len : Nat} {R : List Int} (h : RawAt w a len R) {B : Nat} (k : Below B w w') (hB : ∀ x, a = some x → ∀ j, j < len → (x.add j).block < B) : RawAt w' a len R := by
  refine ⟨h.1, h.2.1, fun h0 => ?_⟩
  obtain ⟨x, rfl, hx⟩ := h.2.2 h0
  exact ⟨x, rfl, fun j hj => (k.cell (hB x rfl j hj)).trans (hx j hj)⟩
/-- .. in a world that has grown. -/
theorem RawAt.grown {w w' : World} {a : Option Addr} {len : Nat} {R : List Int} (h : RawAt w a len R) (k : Kept [] w w') : RawAt w' a len R := by
  refine ⟨h.1, h.2.1, fun h0 => ?_⟩
  obtain ⟨x, rfl, hx⟩ := h.2.2 h0
  exact ⟨x, rfl, fun j hj => (World.cell?_of_block (k.block _ (World.block_lt_of_cell? _ _ (hx j hj)) (by simp))).trans (hx j hj)⟩

def fillAt (v : Int) (R : List Int) (j : Nat) : Int := if j < R.length then R.getD j 0 else v
def fillB (v : Int) (R : List Int) (i : Nat) : List Int := (List.range i).map (fillAt v R) ++ List.replicate (128 - i) 0
theorem fillB_start (v : Int) (R : List Int) : fillB v R 0 = zeros := by simp [fillB, zeros]
theorem fillB_len (v : Int) (R : List Int) (i : Nat) (h : i ≤ 128) : (fillB v R i).length = 128 := by simp [fillB]; omega
theorem fillB_set (v : Int) (R : List Int) (i : Nat) (h : i < 128) (u : Int) (hu : u = fillAt v R i) : (fillB v R i).set i u = fillB v R (i + 1) := by
  subst hu
  have h1 : ((List.range i).map (fillAt v R)).length = i := by simp
  unfold fillB
  rw [List.set_append, if_neg (by omega), h1, Nat.sub_self, show 128 - i = (128 - (i + 1)) + 1 by omega, List.replicate_succ, List.set_cons_zero, List.range_succ, List.map_append, List.append_assoc]
  rfl
theorem fillB_ok (v : Int) (R : List Int) (hv : 0 ≤ v ∧ v < 256) (hR : ∀ x ∈ R, 0 ≤ x ∧ x < 256) : Sec (fillB v R 128) := by
  refine ⟨fillB_len v R 128 (Nat.le_refl _), fun x hx => ?_⟩
  simp only [fillB, Nat.sub_self, List.replicate_zero, List.append_nil, List.mem_map] at hx
  obtain ⟨j, _, rfl⟩ := hx
  unfold fillAt
  split
  · rename_i hj
    rw [show R.getD j 0 = R[j] by simp [List.getD, hj]]
    exact hR _ (List.getElem_mem hj)
  · exact hv

set_option maxRecDepth 2000 in
set_option maxHeartbeats 2000000 in
theorem fill_any (w : World) (v : Int) (a : Option Addr) (len cap : Nat) (R : List Int) (hR : RawAt w a len R) :
    Calls Try.prog 32 #[.int .u8 v, .slice a len cap] w fun e w' => e = .returned (.string (textOf (fillB v R 128))) ∧ Kept [] w w' := by
  obtain ⟨W0, g, hmk, r0, kg, hg0⟩ := made w
  obtain ⟨T, hT⟩ : ∃ T, textOf (fillB v R 128) = T := ⟨_, rfl⟩
  rw [hT]
  go_enter Try.func32, Try.ntmps32
  go_wp2_with fail
  clear hmk
  go_loopw [6] (fun t wr => ∃ q : Int, 0 ≤ q ∧ q ≤ 128 ∧ t = .int .i64 q ∧ Row wr g (fillB v R q.toNat) ∧ Kept [g] W0 wr) (fun t _ => 128 - (Go.RowKit.intOf t).toNat)
  case atStart => exact ⟨0, by omega, by omega, rfl, by rw [Int.toNat_zero, fillB_start]; exact r0, Kept.refl _ _⟩
  case round =>
    obtain ⟨q, hq0, hq1, rfl, hg, hkr⟩ := hrel
    have hkw : Kept [] w wr := (kg.mono (T := [g]) (by simp)).trans hkr |>.fewer (by simp; omega)
    by_cases hlt : q < 128
    · have hlen := fillB_len v R q.toNat (by omega)
      have c := row_cell hg q.toNat (by omega)
      have f := row_frozen hg q.toNat
      have hg1 : Row (wr.setCell ⟨g, q.toNat, none⟩ (.int .u8 v)) g ((fillB v R q.toNat).set q.toNat v) := by
        show (wr.setCell _ _).heap[g]? = _
        rw [heap_setCell_at _ hg, row_set]
      have hk1 : Kept [g] W0 (wr.setCell ⟨g, q.toNat, none⟩ (.int .u8 v)) := hkr.setCell (by simp) _
      by_cases hc : q < len
      · obtain ⟨x, rfl, hx⟩ := (hR.grown hkw).2.2 (by omega)
        have hcx := hx q.toNat (by omega)
        have hxb : (x.add q.toNat).block ≠ g := by
          obtain ⟨x', e, hx'⟩ := hR.2.2 (by omega)
          cases e
          have := World.block_lt_of_cell? _ _ (hx' q.toNat (by omega))
          omega
        have hcx1 : (wr.setCell ⟨g, q.toNat, none⟩ (.int .u8 v)).cell? (x.add q.toNat) = some (.int .u8 (R.getD q.toNat 0)) := by
          rw [World.cell?_of_block (Below.heap_setCell _ _ _ _ hxb)]
          exact hcx
        have hfin : (fillB v R q.toNat).set q.toNat (R.getD q.toNat 0) = fillB v R (q + 1).toNat := by
          rw [show (q + 1).toNat = q.toNat + 1 by omega]
          exact fillB_set v R q.toNat (by omega) _ (by rw [fillAt, if_pos (by rw [hR.1]; omega)])
        clear hcx hx
        generalize hW1 : wr.setCell ⟨g, q.toNat, none⟩ (.int .u8 v) = W1 at hg1 hk1 hcx1
        have c1 := row_cell hg1 q.toNat (by rw [List.length_set]; omega)
        have f1 := row_frozen hg1 q.toNat
        generalize R.getD q.toNat 0 = y at hcx1 hfin
        have hg2 : Row (W1.setCell ⟨g, q.toNat, none⟩ (.int .u8 y)) g (fillB v R (q + 1).toNat) := by
          show (W1.setCell _ _).heap[g]? = _
          rw [heap_setCell_at _ hg1, row_set, List.set_set, hfin]
        have hk2 : Kept [g] W0 (W1.setCell ⟨g, q.toNat, none⟩ (.int .u8 y)) := hk1.setCell (by simp) _
        generalize (fillB v R q.toNat).getD q.toNat 0 = z0 at c
        generalize ((fillB v R q.toNat).set q.toNat v).getD q.toNat 0 = z1 at c1
        generalize hW2 : W1.setCell ⟨g, q.toNat, none⟩ (.int .u8 y) = W2 at hg2 hk2
        clear hg hkr hkw hg1 hk1 hfin hlen hR r0 kg hT
        go_wp2_with fail
        go_roundw
        case rel => exact ⟨q + 1, by omega, by omega, rfl, hg2, hk2⟩
        case measure => simp [Go.RowKit.intOf]; omega
      · have hfin : (fillB v R q.toNat).set q.toNat v = fillB v R (q + 1).toNat := by
          rw [show (q + 1).toNat = q.toNat + 1 by omega]
          exact fillB_set v R q.toNat (by omega) _ (by rw [fillAt, if_neg (by rw [hR.1]; omega)])
        rw [hfin] at hg1
        generalize (fillB v R q.toNat).getD q.toNat 0 = z0 at c
        generalize hW1 : wr.setCell ⟨g, q.toNat, none⟩ (.int .u8 v) = W1 at hg1 hk1
        clear hg hkr hkw hfin hlen hR r0 kg hT
        go_wp2_with fail
        go_roundw
        case rel => exact ⟨q + 1, by omega, by omega, rfl, hg1, hk1⟩
        case measure => simp [Go.RowKit.intOf]; omega
    · obtain rfl : q = 128 := by omega
      have hg : Row wr g (fillB v R 128) := hg
      have tc := text_conv wr g 128 128 (fillB v R 128) (row_range hg) (fillB_len v R 128 (by omega))
      rw [hT] at tc
      clear hg r0 hR hT
      go_wp2
      go_ret
      exact ⟨rfl, hkw⟩
end Go.Proofs.Ytgjnlocokkjejaa
