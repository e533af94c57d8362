/-
  WHAT MAY NOT BE COMMITTED IS REFUSED: the law's walk, case 4.
-/
import Derived.Test.YtnckfmeidcfabaaWalHeads
namespace Go.Proofs.Ytnckfmeidcfabaa
open Go.RowKit Go.Maps

set_option maxRecDepth 4000 in
set_option maxHeartbeats 4000000 in
theorem ref_walk4 (kind n : Int) (hq : kind % 6 = 4) (w : World) :
    Calls Try.prog 5 #[.int .i64 kind, .int .i64 n] w fun e w' => e = .returned (.bool true) ∧ Below w.heap.size w w' := by
  have cK := known_any w
  go_enter Try.func5, Try.ntmps5
  go_wp2_with fail
  refine cK.mono ?_
  rintro e w0 ⟨rfl, k0⟩
  clear cK
  have cN := newDisk 100 (by decide) (by decide) w0
  go_wp2_with fail
  refine cN.mono ?_
  rintro e w1 ⟨db, pb, mb, rfl, hD, hdb, hpb, hmb, k1⟩
  clear cN
  have cO := open_fresh hD (by decide)
  go_wp2_with fail
  refine cO.mono ?_
  rintro e w2 ⟨lb, rfl, hlb, W2, k2⟩
  clear cO hD
  have k02 := k0.trans (k1.trans k2)
  have hs0 := k0.size
  have hs1 := k1.size
  obtain ⟨V0, g, hmk, r0, kg, hg0⟩ := made w2
  have c0 := row_cell r0 0 (by rw [zeros_sec.1]; decide)
  have f0 := row_frozen r0 0
  have r1 : Row (V0.setCell ⟨g, 0, none⟩ (.int .u8 1)) g (zeros.set 0 1) := by
    show (V0.setCell _ _).heap[g]? = _
    rw [heap_setCell_at _ r0, row_set]
  have k3 : Kept [] w2 (V0.setCell ⟨g, 0, none⟩ (.int .u8 1)) := kg.setCell_new hg0 _
  have hz : zeros.getD 0 0 = 0 := by simp [zeros]
  rw [hz] at c0
  generalize hW1 : V0.setCell ⟨g, 0, none⟩ (.int .u8 1) = V1 at r1 k3
  clear r0 hz kg
  go_wp2_with fail
  have hb0 : (V1.alloc (.cells #[.int .i64 42, .slice (some ⟨g, 0, none⟩) 128 128] 51)).heap[V1.heap.size]? = some (.cells #[.int .i64 42, .slice (some ⟨g, 0, none⟩) 128 128] 51 (0, 0)) := heap_alloc_new V1 _
  have k3a : Kept [] w2 (V1.alloc (.cells #[.int .i64 42, .slice (some ⟨g, 0, none⟩) 128 128] 51)) := k3.alloc _
  generalize V1.alloc (.cells #[.int .i64 42, .slice (some ⟨g, 0, none⟩) 128 128] 51) = V2 at hb0 k3a ⊢
  generalize V1.heap.size = gb at hb0 ⊢
  clear hW1 hmk c0 f0 k3 r1
  have cW := within_any kind 6 (by decide) (by decide) V2
  rw [hq] at cW
  refine cW.mono ?_
  rintro e V3 ⟨rfl, rfl⟩
  have k3 := k3a
  have b0 : V3.cell? ⟨gb, 0, none⟩ = some (.int .i64 42) := by simp [World.cell?, hb0]
  have b1 : V3.cell? ⟨gb, 1, none⟩ = some (.slice (some ⟨g, 0, none⟩) 128 128) := by simp [World.cell?, hb0]
  have W3 := W2.kept k3 (by simp) (by simp) (by simp) (by simp)
  have k03 := k02.trans k3
  have hs03 := k03.size
  have lt3 := W3.lts
  clear W2 k3 k3a k02 k0 k1 k2
  clear hq cW
  have hs3 : V3.heap.size ≤ V3.heap.size := Nat.le_refl _
  go_wp2_with fail
  go_loopw [12, 13] (fun t12 t13 wr => ∃ (q : Int) (cs : List PutC), 0 ≤ q ∧ q ≤ 41 ∧ t13 = .int .i64 q ∧ (cs.length : Int) = q ∧ wr.ownsRow V3.heap.size 51 2 t12 cs.length (cellsC cs) ∧ Kept [] V3 wr) (fun _ t13 _ => 41 - (Go.RowKit.intOf t13).toNat)
  case atStart => exact ⟨0, [], by omega, by omega, rfl, rfl, World.ownsRow_nil _ _ _ _, Kept.refl _ _⟩
  case round =>
    rename_i u12 u13
    obtain ⟨q, cs, hq0, hq1, rfl, hcs, hown, kw⟩ := hrel
    have hsw := kw.size
    by_cases hlt : q < 41
    · obtain ⟨v', W', hrun, hown', kA, _⟩ := append_put wr V3.heap.size _ cs hown ⟨42 + q, some ⟨g, 0, none⟩, 128, 128⟩ hsw (by omega)
      have hlt' := hown.lt
      have kw' : Kept [] V3 W' := (kw.mono (by simp)).trans kA |>.fewer (by
        intro x hx
        unfold ownB at hx
        split at hx
        · rename_i k hk
          simp at hx
          subst hx
          exact Or.inr (hlt' _ hk).1
        · cases hx)
      have hlen : ((cs ++ [(⟨42 + q, some ⟨g, 0, none⟩, 128, 128⟩ : PutC)]).length : Int) = q + 1 := by simp; omega
      generalize cs ++ [(⟨42 + q, some ⟨g, 0, none⟩, 128, 128⟩ : PutC)] = cs' at hown' hlen
      clear hown kA hlt' kw W3 b0 b1 hb0
      go_wp2_with (first
        | (refine wpList_append_puts rfl _ _ rfl rfl rfl rfl hrun ?_)
        | fail)
      clear hrun
      go_roundw
      case rel => exact ⟨q + 1, cs', by omega, by omega, rfl, hlen, hown', kw'⟩
      case measure => simp [Go.RowKit.intOf]; omega
    · obtain rfl : q = 41 := by omega
      obtain ⟨gp, cap, hv⟩ : ∃ gp cap, u12 = .slice (some ⟨gp, 0, none⟩) cs.length cap := by
        rcases hown.2 with ⟨_, h0⟩ | ⟨gp, cap, _, hv, _⟩
        · omega
        · exact ⟨gp, cap, hv⟩
      subst hv
      have Wp := W3.kept kw (by simp) (by simp) (by simp) (by simp)
      have cF := refuses_many (w := wr) lb (some ⟨gp, 0, none⟩) cs.length cap (by omega)
      have kq := k03.trans kw
      clear hown kw W3 b0 b1 hb0 hcs
      go_wp2_with fail
      refine cF.mono ?_
      rintro e wc ⟨rfl, kc⟩
      have Wc := Wp.kept kc (by simp) (by simp) (by simp) (by simp)
      have k0c := kq.trans kc
      have cR := read_works Wc 42 (by decide) (by decide)
      clear cF Wp kq kc
      go_wp2_with fail
      refine cR.mono ?_
      rintro e wd ⟨gx, rfl, hgx, rx, sx, Wd, kd⟩
      have rx : Row wd gx zeros := rx
      have k0d : Kept [] w wd := (k0c.mono (by simp)).trans kd |>.fewer (by simp; omega)
      have hsd := k0d.size
      have cI := readNone_works Wd 41 (Or.inl (by decide))
      clear cR Wc kd k0c sx
      go_wp2_with fail
      refine cI.mono ?_
      rintro e we ⟨rfl, rfl⟩
      have cN := newDisk 42 (by decide) (by decide) we
      clear cI
      go_wp2_with fail
      refine cN.mono ?_
      rintro e wf ⟨sb, qb, nb, rfl, hDs, _, _, _, kf⟩
      have cO := open_small hDs rfl (by decide)
      have k0f := k0d.trans kf
      have Wf := Wd.kept kf (by simp) (by simp) (by simp) (by simp)
      have rf := rx.kept kf (by simp)
      clear cN Wd kf rx k0d
      go_wp2_with fail
      refine cO.mono ?_
      rintro e wh ⟨rfl, rfl⟩
      clear cO hDs
      have kB : Kept [] wh (wh.alloc (.cells (rowOf zeros) 5)).drew := (Kept.of_alloc [] wh _).drew
      have t1A := text_conv wh.drew gx 128 128 zeros (row_range rf) zeros_sec.1
      have t1B := text_conv (wh.alloc (.cells (rowOf zeros) 5)).drew gx 128 128 zeros (World.rangeAt_alloc (row_range rf) _) zeros_sec.1
      have mB := text_conv (wh.alloc (.cells (rowOf zeros) 5)).drew wh.heap.size 128 128 zeros (range_new wh zeros _) zeros_sec.1
      have hmk := make_bytes
      have WB : Works (wh.alloc (.cells (rowOf zeros) 5)).drew lb db pb mb 100 _ _ 0 := Wf.kept kB (by simp) (by simp) (by simp) (by simp)
      have k0B := k0f.trans kB
      clear rf Wf kB k0f
      generalize textOf zeros = T at t1A t1B mB
      go_wp2_with fail
      go_region_held (fun _ => True) (trivial) (first | (go_at_call 15; refine (seq_works WB).mono ?_; rintro e wz ⟨rfl, Wz, kz⟩) | fail)
      all_goals have hbl : Below w.heap.size w wz := ((k0B.mono (T := [lb]) (by simp)).trans kz).to_below (Nat.le_refl _) (by simp; omega)
      all_goals clear k0B kz WB Wz t1A t1B mB hmk
      all_goals go_wp2_with fail
      all_goals go_ret
      all_goals exact ⟨rfl, hbl⟩
end Go.Proofs.Ytnckfmeidcfabaa
