/-
  AS MANY SECTORS AS MAY BE CHANGE TOGETHER, CUT OFF ANYWHERE: the law's walk.
-/
import Derived.Test.YtgjnlocokkjejaaWalPuts
import Derived.Test.YtgjnlocokkjejaaWalReopen
namespace Go.Proofs.Ytgjnlocokkjejaa
open Go.RowKit Go.Maps

def gfill (j : Nat) : List Int := fillB ((j : Int) + 1) [] 128
theorem gfill_sec (j : Nat) (h : j < 40) : Sec (gfill j) := fillB_ok _ _ (by omega) (by simp)
theorem gfill_new (j : Nat) (h : j < 40) : ¬ textOf zeros = textOf (gfill j) := by
  intro e
  have := text_inj zeros_sec.2 (gfill_sec j h).2 e
  have h0 : zeros.getD 0 0 = (gfill j).getD 0 0 := by rw [this]
  simp [zeros, gfill, fillB, fillAt, List.getD] at h0
  omega
/-- What is put, of a row that is being made. -/
structure GPuts (w : World) (base : Nat) (v : Value) (ps : List PutV) : Prop where
  own : w.ownsRow base 69 2 v (ps.map headOf).length (cellsC (ps.map headOf))
  item : ∀ j x, ps[j]? = some x → x.N = 42 + j ∧ x.bytes = gfill j ∧ x.o = 0 ∧ w.rangeAt x.b 0 (cellsOf x.bytes) ∧ BlockTy w x.b 5 ∧ base ≤ x.b
theorem GPuts.good {w : World} {base : Nat} {v : Value} {ps : List PutV} (h : GPuts w base v ps) (h0 : 0 < ps.length) (h1 : ps.length ≤ 40) : GoodPuts 82 ps :=
  ⟨h1, h0, fun x hx => by
    obtain ⟨j, hj⟩ := List.getElem?_of_mem hx
    have := (h.item j x hj).1
    have := (List.getElem?_eq_some_iff.1 hj).1
    omega, fun i j x y hx hy hij => by
    have := (h.item i x hx).1
    have := (h.item j y hy).1
    omega⟩
theorem GPuts.done {w : World} {base : Nat} {v : Value} {ps : List PutV} (h : GPuts w base v ps) (h0 : 0 < ps.length) (h1 : ps.length ≤ 40) : ∃ pk cap, v = .slice (some ⟨pk, 0, none⟩) ps.length cap ∧ base ≤ pk ∧ PutsAt w pk ps ∧ ps.length ≤ cap := by
  rcases h.own.2 with ⟨e, f⟩ | ⟨g, cap, cur, e, hb, hg, hc, _, hs, ht⟩
  · simp at f; subst f; simp at h0
  · rw [List.length_map] at e hc
    refine ⟨g, cap, e, hb, ⟨(Array.getElem?_eq_some_iff.1 hg).1, fun j x hx => ?_⟩, hc⟩
    obtain ⟨a1, a2, a3, a4, _⟩ := h.item j x hx
    have hj := (List.getElem?_eq_some_iff.1 hx).1
    have hh : HeadsAt w g (ps.map headOf) := heads_row hg _ (fun j hj => by
      rw [← ht]
      rw [List.getElem?_take, if_pos (by simpa using hj)]
      simp)
    obtain ⟨c1, c2⟩ := hh.2 j (headOf x) (by rw [List.getElem?_map, hx]; rfl)
    exact ⟨c1, c2, by rw [a3]; exact a4, by rw [a2]; exact gfill_sec j (by omega)⟩

theorem fresh_idleP : IdleP 82 freshDsk.pl (fun _ => zeros) 0 := ⟨by decide, by decide, fun _ _ _ => rfl⟩
theorem bytes_neq {X Y : ByteArray} (h : ¬ X = Y) : (X.toList == Y.toList) = false := by
  rw [beq_eq_false_iff_ne]
  intro e
  apply h
  apply ByteArray.ext
  apply Array.ext'
  rw [← Go.ByteArray.toList_eq, ← Go.ByteArray.toList_eq]
  exact e
theorem rowDrew {w : World} {g : Nat} {l : List Int} (h : Row w g l) : Row w.drew g l := h
/-- Stop, in plain words. -/
theorem stopIs {w : World} {db pb mb n B : Nat} {σ : Dsk} (h : DiskIs w db pb mb n B σ) (k : Int) (h0 : 0 ≤ k) (h1 : k < 1000000) :
    Calls Try.prog 18 #[.pointer (some ⟨db, 0, none⟩), .int .i64 k] w fun e w' => e = .returned (.tuple #[]) ∧ DiskIs w' db pb mb n B { σ with left := k } ∧ Kept [db] w w' := by
  obtain ⟨nn, D, ops, hD, hf, a, b, c, d, e⟩ := h
  refine (stop_any hD k).mono ?_
  rintro e w' ⟨rfl, hd, hk⟩
  rw [show max k 0 = k by omega] at hd
  exact ⟨rfl, ⟨nn, D, ops, hd, hf, a, b, c, h0, h1⟩, hk⟩

/-- What is kept while a sector that was read is looked at. -/
structure GS (w : World) (lh db pb mb g : Nat) (U : Nat → List Int) (s : Int) (l : List Int) (W : World) : Prop where
  row : Row W g l
  works : ∃ B, Works W lh db pb mb 82 B U s
  kept : Kept [] w W
theorem GS.on {w : World} {lh db pb mb g : Nat} {U : Nat → List Int} {s : Int} {l : List Int} {W W' : World} (h : GS w lh db pb mb g U s l W) (k : Kept [] W W') : GS w lh db pb mb g U s l W' :=
  ⟨h.row.kept k (by simp), h.works.elim fun B hB => ⟨B, hB.kept k (by simp) (by simp) (by simp) (by simp)⟩, h.kept.trans k⟩
theorem GS.drew {w : World} {lh db pb mb g : Nat} {U : Nat → List Int} {s : Int} {l : List Int} {W : World} (h : GS w lh db pb mb g U s l W) : GS w lh db pb mb g U s l W.drew := h.on (Kept.refl [] W).drew
theorem GS.conv {w : World} {lh db pb mb g : Nat} {U : Nat → List Int} {s : Int} {l : List Int} {W : World} (h : GS w lh db pb mb g U s l W) (hl : l.length = 128) {X : ByteArray} (hX : textOf l = X) :
    (convert 31 9 (.slice (some ⟨g, 0, none⟩) 128 128)).run Try.prog W = .ok (.string X) W := hX ▸ text_conv W g 128 128 l (row_range h.row) hl
theorem made_conv (W : World) {X : ByteArray} (hX : textOf zeros = X) :
    (convert 31 9 (.slice (some ⟨W.heap.size, 0, none⟩) 128 128)).run Try.prog (W.alloc (.cells (rowOf zeros) 5)) = .ok (.string X) (W.alloc (.cells (rowOf zeros) 5)) := hX ▸ text_conv _ _ 128 128 zeros (range_new W zeros _) zeros_sec.1

set_option maxRecDepth 4000 in
set_option maxHeartbeats 8000000 in
theorem great_walk (n stop : Int) (a0 : Option Addr) (len0 cap0 : Nat) (zs : List Int) (w : World) (hZ : NumsAt w a0 len0 zs) :
    Calls Try.prog 5 #[.int .i64 n, .int .i64 stop, .slice a0 len0 cap0] w fun e w' => e = .returned (.bool true) ∧ Below w.heap.size w w' := by
  have cK := known_any w
  go_enter Try.func5, Try.ntmps5
  go_wp2_with fail
  refine cK.mono ?_
  rintro e w0 ⟨rfl, k0⟩
  clear cK
  by_cases h100 : 100 < len0
  · have h100' : (100 : Int) < (len0 : Int) := by omega
    have hb : Below w.heap.size w w0 := k0.to_below (Nat.le_refl _) (by simp)
    go_wp2
    go_ret
    exact ⟨rfl, hb⟩
  have h100' : ¬ (100 : Int) < (len0 : Int) := by omega
  have cN := newDisk 82 (by decide) (by decide) w0
  go_wp2_with fail
  refine cN.mono ?_
  rintro e w1 ⟨db, pb, mb, rfl, hD, hdb, hpb, hmb, k1⟩
  clear cN
  have cO := open_idle hD rfl (by decide) fresh_idle
  go_wp2_with fail
  refine cO.mono ?_
  rintro e w2 ⟨lb, rfl, hlb, L2, k2⟩
  clear cO hD
  have hs0 := k0.size
  have hs1 := k1.size
  have k02 := k0.trans (k1.trans k2)
  have hs2 := k2.size
  have hldb := L2.disk.dbl
  have hlpb := L2.disk.pbl
  have hlmb := L2.disk.mbl
  have hllb := L2.lbl
  have cW := within_any n 40 (by decide) (by decide) w2
  go_wp2_with fail
  refine cW.mono ?_
  rintro e wz ⟨rfl, rfl⟩
  clear cW k0 k1 k2
  have hn0 := Int.emod_nonneg n (show (40 : Int) ≠ 0 by decide)
  have hn1 := Int.emod_lt_of_pos n (show (0 : Int) < 40 by decide)
  obtain ⟨z, hz⟩ : ∃ z, 1 + n % 40 = z := ⟨_, rfl⟩
  have hz0 : 1 ≤ z := by omega
  have hz1 : z ≤ 40 := by omega
  go_wp2_with fail
  clear hz hn0 hn1
  obtain ⟨base, hbase⟩ : ∃ base, wz.heap.size = base := ⟨_, rfl⟩
  go_loopw [11, 12] (fun t11 t12 wr => ∃ (q : Int) (ps : List PutV), 0 ≤ q ∧ q ≤ z ∧ t12 = .int .i64 q ∧ (ps.length : Int) = q ∧ GPuts wr base t11 ps ∧ Kept [] wz wr) (fun _ t12 _ => z.toNat - (Go.RowKit.intOf t12).toNat)
  case atStart => exact ⟨0, [], by omega, by omega, rfl, rfl, ⟨World.ownsRow_nil _ _ _ _, by simp⟩, Kept.refl _ _⟩
  case round =>
    rename_i u11 u12
    obtain ⟨q, ps, hq0, hq1, rfl, hpl, hP, kw⟩ := hrel
    have hsw := kw.size
    by_cases hlt : q < z
    · have cF := fill_any wr (q + 1) none 0 0 [] ⟨rfl, by simp, fun h => absurd h (by decide)⟩
      obtain ⟨l, hl⟩ : ∃ l, fillB (q + 1) [] 128 = l := ⟨_, rfl⟩
      have hgl : l = gfill q.toNat := by rw [← hl, gfill, show ((q.toNat : Nat) : Int) = q by omega]
      have hsec : Sec l := by rw [hgl]; exact gfill_sec _ (by omega)
      rw [hl] at cF
      obtain ⟨T, hT⟩ : ∃ T, textOf l = T := ⟨_, rfl⟩
      rw [hT] at cF
      clear hl
      have hq1' : q + 1 < 256 := by omega
      go_wp2_with fail
      refine cF.mono ?_
      rintro e W2 ⟨rfl, k2⟩
      clear cF
      obtain ⟨cap, W3, hcv, hrg, hty, k3⟩ := conv_bytes W2 l hsec
      rw [hT] at hcv
      have k23 := k2.trans k3
      have hP3 : GPuts W3 base u11 ps := by
        refine ⟨⟨hP.own.1, ?_⟩, fun j x hx => ?_⟩
        · rcases hP.own.2 with ⟨e, f⟩ | ⟨g, c, cur, e, hb, hg, r⟩
          · exact .inl ⟨e, f⟩
          · exact .inr ⟨g, c, cur, e, hb, (k23.block g (Array.getElem?_eq_some_iff.1 hg).1 (by simp)).trans hg, r⟩
        · obtain ⟨a1, a2, a3, a4, a5, a6⟩ := hP.item j x hx
          exact ⟨a1, a2, a3, rangeAt_of_block (k23.block x.b a5.lt (by simp)) a4, a5.kept k23 (by simp), a6⟩
      have hs3 := k23.size
      have hs2 := k2.size
      obtain ⟨v', W4, hrun, hown, k4, hv4⟩ := append_put W3 base u11 (ps.map headOf) hP3.own ⟨42 + q, some ⟨W2.heap.size, 0, none⟩, 128, cap⟩ (by omega) (by simp; omega)
      have hoty : ∀ k ∈ ownB u11, base ≤ k ∧ BlockTy W3 k 69 := by
        intro k hk
        unfold ownB at hk
        rcases hP3.own.2 with ⟨e, _⟩ | ⟨g, c, cur, e, hb, hg, _⟩
        · rw [e] at hk; cases hk
        · rw [e] at hk
          simp [Value.ownBlock] at hk
          subst hk
          exact ⟨hb, cur, _, hg⟩
      have nob : ∀ {b : Nat} {t : TypeId}, BlockTy W3 b t → t ≠ 69 → b ∉ ownB u11 := fun hb ht hin => BlockTy.ne (hoty _ hin).2 hb (Ne.symm ht) rfl
      have kd4 : Kept [] wz W4 := ((kw.trans k23).mono (T := ownB u11) (by simp)).trans k4 |>.fewer (fun x hx => Or.inr (by have := (hoty x hx).1; omega))
      have hP4 : GPuts W4 base v' (ps ++ [(⟨42 + q.toNat, l, W2.heap.size, 0, cap⟩ : PutV)]) := by
        have em : (ps ++ [(⟨42 + q.toNat, l, W2.heap.size, 0, cap⟩ : PutV)]).map headOf = ps.map headOf ++ [⟨42 + q, some ⟨W2.heap.size, 0, none⟩, 128, cap⟩] := by
          simp [headOf]; omega
        refine ⟨by rw [em]; exact hown, fun j x hx => ?_⟩
        by_cases hj : j < ps.length
        · rw [List.getElem?_append_left hj] at hx
          obtain ⟨a1, a2, a3, a4, a5, a6⟩ := hP3.item j x hx
          exact ⟨a1, a2, a3, rangeAt_of_block (k4.block x.b a5.lt (nob a5 (by decide))) a4, a5.kept k4 (nob a5 (by decide)), a6⟩
        · have hj2 := (List.getElem?_eq_some_iff.1 hx).1
          simp at hj2
          obtain rfl : j = ps.length := by omega
          simp at hx
          subst hx
          have hqe : q.toNat = ps.length := by omega
          exact ⟨by show 42 + q.toNat = _; omega, by show l = _; rw [hgl, hqe], rfl, rangeAt_of_block (k4.block _ hty.lt (nob hty (by decide))) hrg, hty.kept k4 (nob hty (by decide)), by show base ≤ W2.heap.size; omega⟩
      have hpl' : ((ps ++ [(⟨42 + q.toNat, l, W2.heap.size, 0, cap⟩ : PutV)]).length : Int) = q + 1 := by simp; omega
      generalize ps ++ [(⟨42 + q.toNat, l, W2.heap.size, 0, cap⟩ : PutV)] = ps' at hP4 hpl'
      clear hP hP3 hown hoty nob k4 hT hgl hbase
      go_wp2_with (first
        | (refine wpList_append_puts rfl _ _ rfl rfl rfl rfl hrun ?_)
        | fail)
      go_roundw
      case rel => exact ⟨q + 1, ps', by omega, by omega, rfl, hpl', hP4, kd4⟩
      case measure => simp [Go.RowKit.intOf]; omega
    · obtain rfl : z = q := by omega
      have hps0 : 0 < ps.length := by omega
      have hps1 : ps.length ≤ 40 := by omega
      obtain ⟨pk, cap, rfl, hpk, hpa, hcap⟩ := hP.done hps0 hps1
      have hg := hP.good hps0 hps1
      have hpb' : ∀ x ∈ ps, base ≤ x.b := fun x hx => by
        obtain ⟨j, hj⟩ := List.getElem?_of_mem hx
        exact (hP.item j x hj).2.2.2.2.2
      have hitem : ∀ j, j < ps.length → afterPuts (fun _ => zeros) ps (42 + j) = gfill j := fun j hj => by
        have h1 := hP.item j ps[j] (List.getElem?_eq_getElem hj)
        have e := userFold_some ps (fun _ => zeros) (42 + j) j (by rw [show ps.getD j zPV = ps[j] by simp [List.getD, hj]]; exact h1.1) ps.length hj (fun i hi hji => by
          rw [show ps.getD i zPV = ps[i] by simp [List.getD, hi], (hP.item i ps[i] (List.getElem?_eq_getElem hi)).1]; omega)
        show (userOps ps ps.length).foldl nw (fun _ => zeros) (42 + j) = _
        rw [e, show ps.getD j zPV = ps[j] by simp [List.getD, hj], h1.2.1]
      have Lr := L2.same kw
      have cW := within_any stop 130 (by decide) (by decide) wr
      have hk0 := Int.emod_nonneg stop (show (130 : Int) ≠ 0 by decide)
      have hk1 := Int.emod_lt_of_pos stop (show (0 : Int) < 130 by decide)
      have k0w := k02.trans kw
      obtain ⟨m, hml⟩ : ∃ m, ps.length = m := ⟨_, rfl⟩
      rw [hml]
      clear L2 k02 hP kw
      go_wp2_with fail
      refine cW.mono ?_
      rintro e wy ⟨rfl, rfl⟩
      clear cW
      obtain ⟨st, hst⟩ : ∃ st, 1 + stop % 130 = st := ⟨_, rfl⟩
      have hst0 : 1 ≤ st := by omega
      have hst1 : st < 1000000 := by omega
      have cS := stopIs Lr.disk st (by omega) hst1
      go_wp2_with fail
      refine cS.mono ?_
      rintro e w4 ⟨rfl, d4, k4⟩
      clear cS hst hk0 hk1
      have L4 := Lr.turn (k4.mono (by simp)) d4
      have hpa4 := hpa.kept k4 (by simp; omega) (fun x hx => by have := hpb' x hx; simp; omega)
      have hI4 : IdleOn { freshDsk with left := st } 0 := ⟨fresh_idle.state, fresh_idle.seq, by decide, by decide⟩
      have cC := Commit_any L4 rfl (by decide) (by decide) pk cap ps hpa4 hcap (by simp; omega) (fun x hx => by have := hpb' x hx; simp; omega) hg hI4
      obtain ⟨cs1, cs2, cs3, _⟩ := commit_safe (σ := { freshDsk with left := st }) (U := fun _ => zeros) (s := 0) rfl fresh_idleP hg (by decide) (by decide) (by decide)
      obtain ⟨⟨σ5, ok⟩, hr⟩ : ∃ x, ({ freshDsk with left := st } : Dsk).run (commitOps 0 ps) = x := ⟨_, rfl⟩
      rw [hr, hml] at cC
      have hout : ∀ p, Torn σ5 p → ∃ V t, ((V = (fun _ => zeros) ∧ t = 0 ∧ ok = false) ∨ (V = afterPuts (fun _ => zeros) ps ∧ t = 1)) ∧ (IdleP 82 p V t ∨ ∃ m, DueP 82 p V t m) := fun p hp => by
        cases ok with
        | true =>
          have e5 := run_all _ hr
          rw [← e5] at cs2 cs3
          exact ⟨_, _, Or.inr ⟨rfl, rfl⟩, Or.inl (cs3.of_same ((hp 0).1 (by rw [cs2])) (fun k _ _ => (hp k).1 (by rw [cs2])))⟩
        | false =>
          obtain ⟨V, t, hA, hB⟩ := safe_dies _ cs1 hr p hp
          refine ⟨V, t, ?_, hB⟩
          rcases hA with ⟨a, b⟩ | ⟨a, b⟩
          · exact Or.inl ⟨a, b, rfl⟩
          · exact Or.inr ⟨a, b⟩
      have k04 : Kept [] w w4 := (k0w.mono (by simp)).trans k4 |>.fewer (by simp; omega)
      clear cs1 cs2 cs3 hr hI4 Lr hpa hpa4 hpb' d4 k4 hg
      go_wp2_with fail
      refine cC.mono ?_
      rintro e w5 ⟨rfl, ⟨s5, L5⟩, k5⟩
      clear cC L4
      have k05 : Kept [] w w5 := (k04.mono (by simp)).trans k5 |>.fewer (by simp; omega)
      have hZ5 := hZ.grown k05
      have cX := Crash_any L5.disk (by decide) zs a0 cap0 (by
        by_cases h0 : len0 = 0
        · left; have := hZ.1; exact List.eq_nil_of_length_eq_zero (by omega)
        · right
          obtain ⟨y, rfl, hy⟩ := hZ5.2 (by omega)
          obtain ⟨y', e', hy'⟩ := hZ.2 (by omega)
          cases e'
          exact ⟨y, rfl, fun j hj => ⟨hy j (by have := hZ.1; omega), by have := World.block_lt_of_cell? _ _ (hy' j (by have := hZ.1; omega)); omega⟩⟩)
      rw [hZ.1] at cX
      clear hZ hZ5
      go_wp2_with fail
      refine cX.mono ?_
      rintro e w6 ⟨r6, rfl, p6, hp6, d6, k6⟩
      clear cX L5
      obtain ⟨V, t, hV, hp⟩ := hout p6 hp6
      have cO := reopen d6 (by decide) (by decide) (by rcases hV with ⟨_, h, _⟩ | ⟨_, h⟩ <;> omega) (by rcases hV with ⟨_, h, _⟩ | ⟨_, h⟩ <;> omega) hp
      have k06 : Kept [] w w6 := (k05.mono (by simp)).trans k6 |>.fewer (by simp; omega)
      clear hout hp6 hp
      go_wp2_with fail
      refine cO.mono ?_
      rintro e w7 ⟨lh, rfl, hlh, W7, k7⟩
      clear cO
      have k07 : Kept [] w w7 := (k06.mono (by simp)).trans k7 |>.fewer (by simp; omega)
      have hlh0 : w.heap.size ≤ lh := by have := k06.size; omega
      clear d6 k6 k7
      rcases hV with ⟨rfl, rfl, rfl⟩ | ⟨rfl, rfl⟩
      · go_wp2_with fail
        go_loopw [16, 17, 18] (fun t16 t17 t18 wr => ∃ q : Int, 0 ≤ q ∧ q ≤ z ∧ t18 = .int .i64 q ∧ t16 = .bool false ∧ (∃ b, t17 = .bool b ∧ (0 < q → b = false)) ∧ (∃ B, Works wr lh db pb mb 82 B (fun _ => zeros) 0) ∧ Kept [] w wr) (fun _ _ t18 _ => z.toNat - (Go.RowKit.intOf t18).toNat)
        case atStart => exact ⟨0, by omega, by omega, rfl, rfl, ⟨true, rfl, fun h => absurd h (by decide)⟩, ⟨_, W7⟩, k07⟩
        case round =>
          obtain ⟨q, hq0, hq1, rfl, rfl, ⟨b17, rfl, hb17⟩, ⟨B, hw⟩, kw⟩ := hrel
          clear W7 k07
          by_cases hlt : q < z
          · have cR := read_works hw (42 + q) (by omega) (by omega)
            go_wp2_with fail
            refine cR.mono ?_
            rintro e w8 ⟨g, rfl, hg, hr, hsec, hw8, k8⟩
            clear cR hw
            have hUN : (fun _ => zeros) (42 + q).toNat = zeros := rfl
            have hr : Row w8 g zeros := by rw [← hUN]; exact hr
            have hsec : (zeros).length = 128 := by rw [← hUN]; exact hsec.1
            clear hUN
            have k08 : Kept [] w w8 := (kw.mono (by simp)).trans k8 |>.fewer (by simp; omega)
            have hG8 : GS w lh db pb mb g (fun _ => zeros) 0 zeros w8 := ⟨hr, ⟨_, hw8⟩, k08⟩
            have cF : ∀ W, Calls Try.prog 32 #[.int .u8 (q + 1), .slice none 0 0] W fun e w' => e = .returned (.string (textOf (fillB (q + 1) [] 128))) ∧ Kept [] W w' := fun W => fill_any W (q + 1) none 0 0 [] ⟨rfl, by simp, fun h => absurd h (by decide)⟩
            rw [show fillB (q + 1) [] 128 = gfill q.toNat by rw [gfill, show ((q.toNat : Nat) : Int) = q by omega]] at cF
            have hne := gfill_new q.toNat (by omega)
            obtain ⟨X, hX⟩ : ∃ X, textOf zeros = X := ⟨_, rfl⟩
            obtain ⟨T, hT⟩ : ∃ T, textOf (gfill q.toNat) = T := ⟨_, rfl⟩
            rw [hT] at cF hne
            rw [hX] at hne
            have hne := bytes_neq hne
            clear hT
            have hcv : ∀ W, GS w lh db pb mb g (fun _ => zeros) 0 zeros W → (convert 31 9 (.slice (some ⟨g, 0, none⟩) 128 128)).run Try.prog W = .ok (.string X) W := fun W hW => hW.conv hsec hX
            have hq1' : q + 1 < 256 := by omega
            have hwA : IntKind.i64.wrap (q + 1) = q + 1 := by rw [IntKind.wrap_i64]; omega
            have hwB : IntKind.u8.wrap (q + 1) = q + 1 := by rw [IntKind.wrap_u8]; omega
            have hwC : (q + 1) % 256 = q + 1 := by omega
            clear hr hw8 k08 k8 kw hitem hg
            go_wp2_with fail
            refine wp_region_held_drew (S := GS w lh db pb mb g (fun _ => zeros) 0 zeros) (by kernel_rfl) (hG8.drew) ?_
            intro hHeld
            clear hG8
            refine wpAnyH_take (i := 0) (v := ?_) (by simp only [List.getElem?_toArray, List.getElem?_cons_zero]; rfl) (by kernel_rfl) (by kernel_rfl) (by kernel_rfl) (by exact fun _ _ _ h => h) (Or.inl ⟨by rfl, ?_⟩) (by assumption) ?_; rotate_left; (focus (intro w hSw; go_simp; try with_reducible rfl)); simp only [Act.put, List.setIfInBounds_toArray, List.set_cons_zero, List.set_cons_succ]
            refine wpAnyH_take (i := 1) (v := ?_) (by simp only [List.getElem?_toArray, List.getElem?_cons_zero, List.getElem?_cons_succ]; rfl) (by kernel_rfl) (by kernel_rfl) (by kernel_rfl) (by exact fun _ _ _ h => h) (Or.inl ⟨by rfl, ?_⟩) (by assumption) ?_; rotate_left; (focus (intro w hSw; have hcw := hcv w hSw; go_simp; try with_reducible rfl)); simp only [Act.put, List.setIfInBounds_toArray, List.set_cons_zero, List.set_cons_succ]
            refine wpAnyH_take (i := 2) (v := ?_) (by simp only [List.getElem?_toArray, List.getElem?_cons_zero, List.getElem?_cons_succ]; rfl) (by kernel_rfl) (by kernel_rfl) (by kernel_rfl) (by exact fun _ _ _ h => h) (Or.inl ⟨by rfl, ?_⟩) (by assumption) ?_; rotate_left; (focus (intro w hSw; go_simp; try with_reducible rfl)); simp only [Act.put, List.setIfInBounds_toArray, List.set_cons_zero, List.set_cons_succ]
            refine wpAnyH_take (i := 3) (v := ?_) (by simp only [List.getElem?_toArray, List.getElem?_cons_zero, List.getElem?_cons_succ]; rfl) (by kernel_rfl) (by kernel_rfl) (by kernel_rfl) (by exact fun _ _ _ h => h) (Or.inl ⟨by rfl, ?_⟩) (by assumption) ?_; rotate_left; (focus (intro w hSw; go_simp; try with_reducible rfl)); simp only [Act.put, List.setIfInBounds_toArray, List.set_cons_zero, List.set_cons_succ]
            refine wpAnyH_take (i := 4) (v := ?_) (by simp only [List.getElem?_toArray, List.getElem?_cons_zero, List.getElem?_cons_succ]; rfl) (by kernel_rfl) (by kernel_rfl) (by kernel_rfl) (by exact fun _ _ _ h => h) (Or.inl ⟨by rfl, ?_⟩) (by assumption) ?_; rotate_left; (focus (intro w hSw; go_simp; try with_reducible rfl)); simp only [Act.put, List.setIfInBounds_toArray, List.set_cons_zero, List.set_cons_succ]
            refine wpAnyH_ready (rs := [5]) (by kernel_rfl) (by simp) ?_
            refine AllReadyH.cons (by simp only [List.getElem?_toArray, List.getElem?_cons_zero, List.getElem?_cons_succ]; rfl) (fun K hK => ?_) AllReadyH.nil
            go_simp
            go_at_call 32
            refine (cF _).mono ?_
            rintro e w9 ⟨rfl, k9⟩
            have hG9 := hHeld.on k9
            refine hK.out _ _ (hG9) ?_
            clear hHeld hK
            intro hHeld
            (try simp only [Act.put, List.setIfInBounds_toArray, List.set_cons_zero, List.set_cons_succ])
            refine wpAnyH_take (i := 6) (v := ?_) (by simp only [List.getElem?_toArray, List.getElem?_cons_zero, List.getElem?_cons_succ]; rfl) (by kernel_rfl) (by kernel_rfl) (by kernel_rfl) (by exact fun _ _ _ h => h) (Or.inl ⟨by rfl, ?_⟩) (by assumption) ?_; rotate_left; (focus (intro w hSw; go_simp; try with_reducible rfl)); simp only [Act.put, List.setIfInBounds_toArray, List.set_cons_zero, List.set_cons_succ]
            refine wpAnyH_take (i := 7) (v := ?_) (by simp only [List.getElem?_toArray, List.getElem?_cons_zero, List.getElem?_cons_succ]; rfl) (by kernel_rfl) (by kernel_rfl) (by kernel_rfl) (by exact fun _ _ _ h => h) (Or.inl ⟨by rfl, ?_⟩) (by assumption) ?_; rotate_left; (focus (intro w hSw; go_simp; try with_reducible rfl)); simp only [Act.put, List.setIfInBounds_toArray, List.set_cons_zero, List.set_cons_succ]
            refine wpAnyH_done (by kernel_rfl) ?_ _
            clear hHeld k9
            go_wp2_with fail
            refine wp_region_held_drew (S := GS w lh db pb mb g (fun _ => zeros) 0 zeros) (by kernel_rfl) (hG9.drew) ?_
            intro hHeld
            clear hG9
            refine wpAnyH_take (i := 0) (v := ?_) (by simp only [List.getElem?_toArray, List.getElem?_cons_zero]; rfl) (by kernel_rfl) (by kernel_rfl) (by kernel_rfl) (by exact fun _ _ _ h => h) (Or.inl ⟨by rfl, ?_⟩) (by assumption) ?_; rotate_left; (focus (intro w hSw; go_simp; try with_reducible rfl)); simp only [Act.put, List.setIfInBounds_toArray, List.set_cons_zero, List.set_cons_succ]
            refine wpAnyH_take (i := 1) (v := ?_) (by simp only [List.getElem?_toArray, List.getElem?_cons_zero, List.getElem?_cons_succ]; rfl) (by kernel_rfl) (by kernel_rfl) (by kernel_rfl) (by exact fun _ _ _ h => h) (Or.inl ⟨by rfl, ?_⟩) (by assumption) ?_; rotate_left; (focus (intro w hSw; go_simp; try with_reducible rfl)); simp only [Act.put, List.setIfInBounds_toArray, List.set_cons_zero, List.set_cons_succ]
            refine wpAnyH_take (i := 2) (v := ?_) (by simp only [List.getElem?_toArray, List.getElem?_cons_zero, List.getElem?_cons_succ]; rfl) (by kernel_rfl) (by kernel_rfl) (by kernel_rfl) (by exact fun _ _ _ h => h) (Or.inl ⟨by rfl, ?_⟩) (by assumption) ?_; rotate_left; (focus (intro w hSw; go_simp; try with_reducible rfl)); simp only [Act.put, List.setIfInBounds_toArray, List.set_cons_zero, List.set_cons_succ]
            refine wpAnyH_take (i := 3) (v := ?_) (by simp only [List.getElem?_toArray, List.getElem?_cons_zero, List.getElem?_cons_succ]; rfl) (by kernel_rfl) (by kernel_rfl) (by kernel_rfl) (by exact fun _ _ _ h => h) (Or.inl ⟨by rfl, ?_⟩) (by assumption) ?_; rotate_left; (focus (intro w hSw; go_simp; try with_reducible rfl)); simp only [Act.put, List.setIfInBounds_toArray, List.set_cons_zero, List.set_cons_succ]
            refine wpAnyH_take (i := 4) (v := ?_) (by simp only [List.getElem?_toArray, List.getElem?_cons_zero, List.getElem?_cons_succ]; rfl) (by kernel_rfl) (by kernel_rfl) (by kernel_rfl) (by exact fun _ _ _ h => h) (Or.inl ⟨by rfl, ?_⟩) (by assumption) ?_; rotate_left; (focus (intro w hSw; have hcw := hcv w hSw; go_simp; try with_reducible rfl)); simp only [Act.put, List.setIfInBounds_toArray, List.set_cons_zero, List.set_cons_succ]
            obtain ⟨W5, hW5⟩ : ∃ W5, w9.drew = W5 := ⟨_, rfl⟩
            rw [hW5]
            rw [hW5] at hHeld
            have hmk := make_bytes W5
            have hmc := made_conv W5 hX
            have hGa := hHeld.on (Kept.of_alloc [] W5 (.cells (rowOf zeros) 5))
            refine wpAnyH_ready (rs := [5]) (by kernel_rfl) (by simp) ?_
            refine AllReadyH.cons (by simp only [List.getElem?_toArray, List.getElem?_cons_zero, List.getElem?_cons_succ]; rfl) (fun K hK => ?_) AllReadyH.nil
            go_simp
            refine hK.out _ _ (hGa) ?_
            clear hHeld hK
            intro hHeld
            (try simp only [Act.put, List.setIfInBounds_toArray, List.set_cons_zero, List.set_cons_succ])
            refine wpAnyH_ready (rs := [6]) (by kernel_rfl) (by simp) ?_
            refine AllReadyH.cons (by simp only [List.getElem?_toArray, List.getElem?_cons_zero, List.getElem?_cons_succ]; rfl) (fun K hK => ?_) AllReadyH.nil
            go_simp
            refine hK.out _ _ (hGa) ?_
            clear hHeld hK
            intro hHeld
            (try simp only [Act.put, List.setIfInBounds_toArray, List.set_cons_zero, List.set_cons_succ])
            first | (refine wpAnyH_take (i := 7) (v := ?_) (by simp only [List.getElem?_toArray, List.getElem?_cons_zero, List.getElem?_cons_succ]; rfl) (by kernel_rfl) (by kernel_rfl) (by kernel_rfl) (by exact fun _ _ _ h => h) (Or.inl ⟨by rfl, ?_⟩) (by assumption) ?_; rotate_left; (focus (intro w hSw; go_simp; try with_reducible rfl)); simp only [Act.put, List.setIfInBounds_toArray, List.set_cons_zero, List.set_cons_succ]) | (refine wpAnyH_take (i := 7) (v := undef) (by simp only [List.getElem?_toArray, List.getElem?_cons_zero, List.getElem?_cons_succ]; rfl) (by kernel_rfl) (by kernel_rfl) (by kernel_rfl) (by exact fun _ _ _ h => h) (Or.inr ⟨by rfl, rfl⟩) (by assumption) ?_; simp only [Act.put, List.setIfInBounds_toArray, List.set_cons_zero, List.set_cons_succ])
            refine wpAnyH_take (i := 8) (v := ?_) (by simp only [List.getElem?_toArray, List.getElem?_cons_zero, List.getElem?_cons_succ]; rfl) (by kernel_rfl) (by kernel_rfl) (by kernel_rfl) (by exact fun _ _ _ h => h) (Or.inl ⟨by rfl, ?_⟩) (by assumption) ?_; rotate_left; (focus (intro w hSw; go_simp; try with_reducible rfl)); simp only [Act.put, List.setIfInBounds_toArray, List.set_cons_zero, List.set_cons_succ]
            refine wpAnyH_done (by kernel_rfl) ?_ _
            clear hcv cF
            go_wp2_with fail
            all_goals go_roundw
            all_goals first | exact ⟨q + 1, by omega, by omega, rfl, rfl, ⟨_, rfl, fun _ => by simp⟩, hHeld.works, hHeld.kept⟩ | (simp [Go.RowKit.intOf]; omega)
          · obtain rfl : z = q := by omega
            have hbel : Below w.heap.size w wr := kw.to_below (Nat.le_refl _) (by simp)
            obtain rfl := hb17 (by omega)
            go_wp2
            go_ret
            exact ⟨rfl, hbel⟩
      · go_wp2_with fail
        go_loopw [16, 17, 18] (fun t16 t17 t18 wr => ∃ q : Int, 0 ≤ q ∧ q ≤ z ∧ t18 = .int .i64 q ∧ (∃ b, t16 = .bool b ∧ (0 < q → b = true)) ∧ t17 = .bool true ∧ (∃ B, Works wr lh db pb mb 82 B (afterPuts (fun _ => zeros) ps) 1) ∧ Kept [] w wr) (fun _ _ t18 _ => z.toNat - (Go.RowKit.intOf t18).toNat)
        case atStart => exact ⟨0, by omega, by omega, rfl, ⟨false, rfl, fun h => absurd h (by decide)⟩, rfl, ⟨_, W7⟩, k07⟩
        case round =>
          obtain ⟨q, hq0, hq1, rfl, ⟨b16, rfl, hb16⟩, rfl, ⟨B, hw⟩, kw⟩ := hrel
          clear W7 k07
          by_cases hlt : q < z
          · have cR := read_works hw (42 + q) (by omega) (by omega)
            go_wp2_with fail
            refine cR.mono ?_
            rintro e w8 ⟨g, rfl, hg, hr, hsec, hw8, k8⟩
            clear cR hw
            have hUN : (afterPuts (fun _ => zeros) ps) (42 + q).toNat = (gfill q.toNat) := by rw [show (42 + q).toNat = 42 + q.toNat by omega]; exact hitem q.toNat (by omega)
            have hr : Row w8 g (gfill q.toNat) := by rw [← hUN]; exact hr
            have hsec : ((gfill q.toNat)).length = 128 := by rw [← hUN]; exact hsec.1
            clear hUN
            have k08 : Kept [] w w8 := (kw.mono (by simp)).trans k8 |>.fewer (by simp; omega)
            have hG8 : GS w lh db pb mb g (afterPuts (fun _ => zeros) ps) 1 (gfill q.toNat) w8 := ⟨hr, ⟨_, hw8⟩, k08⟩
            have cF : ∀ W, Calls Try.prog 32 #[.int .u8 (q + 1), .slice none 0 0] W fun e w' => e = .returned (.string (textOf (fillB (q + 1) [] 128))) ∧ Kept [] W w' := fun W => fill_any W (q + 1) none 0 0 [] ⟨rfl, by simp, fun h => absurd h (by decide)⟩
            rw [show fillB (q + 1) [] 128 = gfill q.toNat by rw [gfill, show ((q.toNat : Nat) : Int) = q by omega]] at cF
            skip
            obtain ⟨X, hX⟩ : ∃ X, textOf (gfill q.toNat) = X := ⟨_, rfl⟩
            rw [hX] at cF
            have hcv : ∀ W, GS w lh db pb mb g (afterPuts (fun _ => zeros) ps) 1 (gfill q.toNat) W → (convert 31 9 (.slice (some ⟨g, 0, none⟩) 128 128)).run Try.prog W = .ok (.string X) W := fun W hW => hW.conv hsec hX
            have hq1' : q + 1 < 256 := by omega
            have hwA : IntKind.i64.wrap (q + 1) = q + 1 := by rw [IntKind.wrap_i64]; omega
            have hwB : IntKind.u8.wrap (q + 1) = q + 1 := by rw [IntKind.wrap_u8]; omega
            have hwC : (q + 1) % 256 = q + 1 := by omega
            clear hr hw8 k08 k8 kw hitem hg hX
            go_wp2_with fail
            refine wp_region_held_drew (S := GS w lh db pb mb g (afterPuts (fun _ => zeros) ps) 1 (gfill q.toNat)) (by kernel_rfl) (hG8.drew) ?_
            intro hHeld
            clear hG8
            refine wpAnyH_take (i := 0) (v := ?_) (by simp only [List.getElem?_toArray, List.getElem?_cons_zero]; rfl) (by kernel_rfl) (by kernel_rfl) (by kernel_rfl) (by exact fun _ _ _ h => h) (Or.inl ⟨by rfl, ?_⟩) (by assumption) ?_; rotate_left; (focus (intro w hSw; go_simp; try with_reducible rfl)); simp only [Act.put, List.setIfInBounds_toArray, List.set_cons_zero, List.set_cons_succ]
            refine wpAnyH_take (i := 1) (v := ?_) (by simp only [List.getElem?_toArray, List.getElem?_cons_zero, List.getElem?_cons_succ]; rfl) (by kernel_rfl) (by kernel_rfl) (by kernel_rfl) (by exact fun _ _ _ h => h) (Or.inl ⟨by rfl, ?_⟩) (by assumption) ?_; rotate_left; (focus (intro w hSw; have hcw := hcv w hSw; go_simp; try with_reducible rfl)); simp only [Act.put, List.setIfInBounds_toArray, List.set_cons_zero, List.set_cons_succ]
            refine wpAnyH_take (i := 2) (v := ?_) (by simp only [List.getElem?_toArray, List.getElem?_cons_zero, List.getElem?_cons_succ]; rfl) (by kernel_rfl) (by kernel_rfl) (by kernel_rfl) (by exact fun _ _ _ h => h) (Or.inl ⟨by rfl, ?_⟩) (by assumption) ?_; rotate_left; (focus (intro w hSw; go_simp; try with_reducible rfl)); simp only [Act.put, List.setIfInBounds_toArray, List.set_cons_zero, List.set_cons_succ]
            refine wpAnyH_take (i := 3) (v := ?_) (by simp only [List.getElem?_toArray, List.getElem?_cons_zero, List.getElem?_cons_succ]; rfl) (by kernel_rfl) (by kernel_rfl) (by kernel_rfl) (by exact fun _ _ _ h => h) (Or.inl ⟨by rfl, ?_⟩) (by assumption) ?_; rotate_left; (focus (intro w hSw; go_simp; try with_reducible rfl)); simp only [Act.put, List.setIfInBounds_toArray, List.set_cons_zero, List.set_cons_succ]
            refine wpAnyH_take (i := 4) (v := ?_) (by simp only [List.getElem?_toArray, List.getElem?_cons_zero, List.getElem?_cons_succ]; rfl) (by kernel_rfl) (by kernel_rfl) (by kernel_rfl) (by exact fun _ _ _ h => h) (Or.inl ⟨by rfl, ?_⟩) (by assumption) ?_; rotate_left; (focus (intro w hSw; go_simp; try with_reducible rfl)); simp only [Act.put, List.setIfInBounds_toArray, List.set_cons_zero, List.set_cons_succ]
            refine wpAnyH_ready (rs := [5]) (by kernel_rfl) (by simp) ?_
            refine AllReadyH.cons (by simp only [List.getElem?_toArray, List.getElem?_cons_zero, List.getElem?_cons_succ]; rfl) (fun K hK => ?_) AllReadyH.nil
            go_simp
            go_at_call 32
            refine (cF _).mono ?_
            rintro e w9 ⟨rfl, k9⟩
            have hG9 := hHeld.on k9
            refine hK.out _ _ (hG9) ?_
            clear hHeld hK
            intro hHeld
            (try simp only [Act.put, List.setIfInBounds_toArray, List.set_cons_zero, List.set_cons_succ])
            refine wpAnyH_take (i := 6) (v := ?_) (by simp only [List.getElem?_toArray, List.getElem?_cons_zero, List.getElem?_cons_succ]; rfl) (by kernel_rfl) (by kernel_rfl) (by kernel_rfl) (by exact fun _ _ _ h => h) (Or.inl ⟨by rfl, ?_⟩) (by assumption) ?_; rotate_left; (focus (intro w hSw; go_simp; try with_reducible rfl)); simp only [Act.put, List.setIfInBounds_toArray, List.set_cons_zero, List.set_cons_succ]
            refine wpAnyH_take (i := 7) (v := ?_) (by simp only [List.getElem?_toArray, List.getElem?_cons_zero, List.getElem?_cons_succ]; rfl) (by kernel_rfl) (by kernel_rfl) (by kernel_rfl) (by exact fun _ _ _ h => h) (Or.inl ⟨by rfl, ?_⟩) (by assumption) ?_; rotate_left; (focus (intro w hSw; go_simp; try with_reducible rfl)); simp only [Act.put, List.setIfInBounds_toArray, List.set_cons_zero, List.set_cons_succ]
            refine wpAnyH_done (by kernel_rfl) ?_ _
            clear hHeld k9
            go_wp2_with fail
            refine wp_region_held_drew (S := GS w lh db pb mb g (afterPuts (fun _ => zeros) ps) 1 (gfill q.toNat)) (by kernel_rfl) (hG9.drew) ?_
            intro hHeld
            clear hG9
            refine wpAnyH_take (i := 0) (v := ?_) (by simp only [List.getElem?_toArray, List.getElem?_cons_zero]; rfl) (by kernel_rfl) (by kernel_rfl) (by kernel_rfl) (by exact fun _ _ _ h => h) (Or.inl ⟨by rfl, ?_⟩) (by assumption) ?_; rotate_left; (focus (intro w hSw; go_simp; try with_reducible rfl)); simp only [Act.put, List.setIfInBounds_toArray, List.set_cons_zero, List.set_cons_succ]
            refine wpAnyH_take (i := 1) (v := ?_) (by simp only [List.getElem?_toArray, List.getElem?_cons_zero, List.getElem?_cons_succ]; rfl) (by kernel_rfl) (by kernel_rfl) (by kernel_rfl) (by exact fun _ _ _ h => h) (Or.inl ⟨by rfl, ?_⟩) (by assumption) ?_; rotate_left; (focus (intro w hSw; go_simp; try with_reducible rfl)); simp only [Act.put, List.setIfInBounds_toArray, List.set_cons_zero, List.set_cons_succ]
            refine wpAnyH_take (i := 2) (v := ?_) (by simp only [List.getElem?_toArray, List.getElem?_cons_zero, List.getElem?_cons_succ]; rfl) (by kernel_rfl) (by kernel_rfl) (by kernel_rfl) (by exact fun _ _ _ h => h) (Or.inl ⟨by rfl, ?_⟩) (by assumption) ?_; rotate_left; (focus (intro w hSw; go_simp; try with_reducible rfl)); simp only [Act.put, List.setIfInBounds_toArray, List.set_cons_zero, List.set_cons_succ]
            refine wpAnyH_take (i := 3) (v := undef) (by simp only [List.getElem?_toArray, List.getElem?_cons_zero, List.getElem?_cons_succ]; rfl) (by kernel_rfl) (by kernel_rfl) (by kernel_rfl) (by exact fun _ _ _ h => h) (Or.inr ⟨by rfl, rfl⟩) (by assumption) ?_; simp only [Act.put, List.setIfInBounds_toArray, List.set_cons_zero, List.set_cons_succ]
            refine wpAnyH_take (i := 4) (v := undef) (by simp only [List.getElem?_toArray, List.getElem?_cons_zero, List.getElem?_cons_succ]; rfl) (by kernel_rfl) (by kernel_rfl) (by kernel_rfl) (by exact fun _ _ _ h => h) (Or.inr ⟨by rfl, rfl⟩) (by assumption) ?_; simp only [Act.put, List.setIfInBounds_toArray, List.set_cons_zero, List.set_cons_succ]
            refine wpAnyH_take (i := 5) (v := undef) (by simp only [List.getElem?_toArray, List.getElem?_cons_zero, List.getElem?_cons_succ]; rfl) (by kernel_rfl) (by kernel_rfl) (by kernel_rfl) (by exact fun _ _ _ h => h) (Or.inr ⟨by rfl, rfl⟩) (by assumption) ?_; simp only [Act.put, List.setIfInBounds_toArray, List.set_cons_zero, List.set_cons_succ]
            refine wpAnyH_take (i := 6) (v := undef) (by simp only [List.getElem?_toArray, List.getElem?_cons_zero, List.getElem?_cons_succ]; rfl) (by kernel_rfl) (by kernel_rfl) (by kernel_rfl) (by exact fun _ _ _ h => h) (Or.inr ⟨by rfl, rfl⟩) (by assumption) ?_; simp only [Act.put, List.setIfInBounds_toArray, List.set_cons_zero, List.set_cons_succ]
            first | (refine wpAnyH_take (i := 7) (v := ?_) (by simp only [List.getElem?_toArray, List.getElem?_cons_zero, List.getElem?_cons_succ]; rfl) (by kernel_rfl) (by kernel_rfl) (by kernel_rfl) (by exact fun _ _ _ h => h) (Or.inl ⟨by rfl, ?_⟩) (by assumption) ?_; rotate_left; (focus (intro w hSw; go_simp; try with_reducible rfl)); simp only [Act.put, List.setIfInBounds_toArray, List.set_cons_zero, List.set_cons_succ]) | (refine wpAnyH_take (i := 7) (v := undef) (by simp only [List.getElem?_toArray, List.getElem?_cons_zero, List.getElem?_cons_succ]; rfl) (by kernel_rfl) (by kernel_rfl) (by kernel_rfl) (by exact fun _ _ _ h => h) (Or.inr ⟨by rfl, rfl⟩) (by assumption) ?_; simp only [Act.put, List.setIfInBounds_toArray, List.set_cons_zero, List.set_cons_succ])
            refine wpAnyH_take (i := 8) (v := ?_) (by simp only [List.getElem?_toArray, List.getElem?_cons_zero, List.getElem?_cons_succ]; rfl) (by kernel_rfl) (by kernel_rfl) (by kernel_rfl) (by exact fun _ _ _ h => h) (Or.inl ⟨by rfl, ?_⟩) (by assumption) ?_; rotate_left; (focus (intro w hSw; go_simp; try with_reducible rfl)); simp only [Act.put, List.setIfInBounds_toArray, List.set_cons_zero, List.set_cons_succ]
            refine wpAnyH_done (by kernel_rfl) ?_ _
            clear hcv cF
            go_wp2_with fail
            all_goals go_roundw
            all_goals first | exact ⟨q + 1, by omega, by omega, rfl, ⟨_, rfl, fun _ => by simp⟩, rfl, hHeld.works, hHeld.kept⟩ | (simp [Go.RowKit.intOf]; omega)
          · obtain rfl : z = q := by omega
            have hbel : Below w.heap.size w wr := kw.to_below (Nat.le_refl _) (by simp)
            obtain rfl := hb16 (by omega)
            go_wp2
            all_goals go_ret
            all_goals exact ⟨rfl, hbel⟩
end Go.Proofs.Ytgjnlocokkjejaa
