/-
  P1401, P1402: whatever entries come, such as may not be, too, each label has its own, in order, and its chain; who looks from a label is told those that it is over; each is written as the document says: the law's walk. Written by mk_audplays.py.
-/
import Derived.Deep.RegionHeld
import Derived.Deep.CutBlock
import Derived.Test.YtohocomemkckeaaGreatDoorPt2
import Derived.Test.YtohocomemkckeaaGreatDoorPt3
namespace Go.Proofs.YtohocomemkckeaaGreatDoor
open Go.RowKit
set_option maxRecDepth 8000
set_option linter.unusedSimpArgs false
set_option linter.unusedVariables false

section
variable {I : World → Prop} {Q : World → List Nat → Addr → List Ent → Prop}
/-- The row's block, and a box, among those that the log never meets. -/
theorem LGF.both (C : LogOk I Q) {F : List Nat} {b g : Nat} {X W : World} {p : Addr} {st : List Ent} {a a2 : Option Addr} (h : LGF Q F b X p st) (k : Below X.heap.size X W) (hg : X.heap.size ≤ g ∧ g < W.heap.size) (ha : ∀ y, a = some y → y.block ∈ F) (h2 : a2 = a ∨ ∀ y, a2 = some y → X.heap.size ≤ y.block ∧ y.block < W.heap.size) : ∃ F', LGF Q F' b W p st ∧ g ∈ F' ∧ ∀ y, a2 = some y → y.block ∈ F' := by
  rcases h2 with h2 | h2
  · refine ⟨_, h.more C k [g] (fun j hj => by simp at hj; subst hj; exact hg), by simp, fun y hy => ?_⟩
    rw [h2] at hy
    exact List.mem_append_right _ (ha y hy)
  · cases a2 with
    | none => exact ⟨_, h.more C k [g] (fun j hj => by simp at hj; subst hj; exact hg), by simp, fun y hy => by cases hy⟩
    | some z => exact ⟨_, h.more C k [g, z.block] (fun j hj => by simp at hj; rcases hj with rfl | rfl; exact hg; exact h2 z rfl), by simp, fun y hy => by cases hy; simp⟩
end
set_option maxRecDepth 20000 in
set_option maxHeartbeats 16000000 in
theorem auditPlays_walk {I : World → Prop} {Q : World → List Nat → Addr → List Ent → Prop} (C : LogOk I Q) (a : Option Addr) (cap : Nat) (l : List Ent) (a2 : Option Addr) (cap2 : Nat) (ks : List Lab) (w : World) (h : RowE w a l) (h2 : RowAt 4 lcells w a2 ks) (hq : ∀ e ∈ l, -9223372036854775808 ≤ e.seq ∧ e.seq ≤ 9223372036854775807) (hz : ∀ e ∈ l, e.user.size + e.object.size ≤ 9223372036854775807) (hI : ∀ W, Below w.heap.size w W → I W) :
    Calls Tryz.prog 3 #[.slice a l.length cap, .slice a2 ks.length cap2] w fun r w' => r = .returned (.bool true) ∧ Below w.heap.size w w' := by
  have hundL := Tryz.underlying28
  have hundE := Tryz.underlying31
  have hsl : (Tryz.prog.info? 28).map (·.size) = some 4 := by kernel_rfl
  have hse : (Tryz.prog.info? 31).map (·.size) = some 9 := by kernel_rfl
  obtain ⟨n, hn⟩ : ∃ n, l.length = n := ⟨_, rfl⟩
  obtain ⟨m, hm⟩ : ∃ m, ks.length = m := ⟨_, rfl⟩
  rw [hn, hm]
  replace hn : Aside (l.length = n) := hn
  replace hm : Aside (ks.length = m) := hm
  go_enter Tryz.func3, Tryz.ntmps3
  go_wp2_with fail
  refine (aknown_any C w (hI _ (Below.refl _ _))).mono ?_
  rintro r W1 ⟨rfl, hB1⟩
  go_wp2_with fail
  refine (C.new W1 (hI _ hB1)).mono ?_
  rintro r W2 ⟨p, S, rfl, hq2, hS2, hB2⟩
  have hL2 : LGF Q [] w.heap.size W2 p [] := ⟨⟨S, hq2, fun k hk => ⟨Nat.le_trans hB1.size (hS2 k hk), by simp⟩⟩, aud_nil, by simp⟩
  have hB02 := Below.then hB1 hB2
  clear hq2 hS2 hB1 hB2
  go_wp2_with fail
  go_loopw [6, 7] (fun t6 t7 wr => ∃ (i : Nat) (st : List Ent) (ra : Option Addr) (rc : Nat) (F : List Nat), i ≤ n ∧ i ≤ 120 ∧ t7 = .int .i64 (i : Int) ∧ t6 = .slice ra st.length rc ∧ st.length ≤ rc ∧ (ra = none → rc = 0) ∧ RowE wr ra st ∧ LGF Q F w.heap.size wr p st ∧ (∀ y, ra = some y → y.block ∈ F) ∧ Aside (st.length ≤ i) ∧ Below w.heap.size w wr) (fun _ t7 _ => n - (Go.RowKit.intOf t7).toNat)
  case atStart => exact ⟨0, [], none, 0, [], by omega, by omega, rfl, rfl, by simp, fun _ => rfl, (fun j x hx => by cases hx), hL2, (fun y hy => by cases hy), Nat.le_refl _, hB02⟩
  case round =>
  clear hL2 hB02
  obtain ⟨i, st, ra, rc, F, hin, hi120, rfl, rfl, hsc, hno, hrow, hL, hF, hsi, hB⟩ := hrel
  by_cases hgo : i < n ∧ i < 120
  rotate_left
  · by_cases h1 : (i : Int) < (n : Int)
    · have h3 : ¬ (i : Int) < 120 := by omega
      go_wp2_with fail
      go_ret
      exact ⟨rfl, hB⟩
    · go_wp2_with fail
      go_ret
      exact ⟨rfl, hB⟩
  obtain ⟨hi1, hi2⟩ := hgo
  have j1 : (i : Int) < (n : Int) := by omega
  have j2 : (i : Int) < 120 := by omega
  obtain ⟨x, hx⟩ : ∃ x, l[i]? = some x := ⟨_, List.getElem?_eq_getElem (by rw [hn.out]; exact hi1)⟩
  obtain ⟨y, rfl, -⟩ := h i x hx
  have hrd := (h.below ent_ok.len hB).at ent_ok.len hx
  have hxq := hq x (List.mem_of_getElem? hx)
  have hxz := hz x (List.mem_of_getElem? hx)
  obtain ⟨W5, hW5, hth5, hb5, hB5⟩ := put_new wr zE 31 (ecs x) rfl (by rw [ecs_len]; decide)
  have hone := ent_one x
  have hl8 : wr.heap.size < W5.heap.size := hb5.2
  clear hx
  obtain ⟨sn, hsn⟩ : ∃ sn, st.length = sn := ⟨_, rfl⟩
  rw [hsn] at hsc ⊢
  replace hsn : Aside (st.length = sn) := hsn
  go_upto_region 9 with (first | (refine wpList_load_at rfl _ rfl (y.add (i * 9)) rfl (ecs x) hrd hundE rfl hse ?_) | (refine wpList_store_row rfl _ _ rfl wr.heap.size rfl (ecs x) rfl hth5 hse hone hW5 ?_) | fail)
  (try simp only [Act.put])
  obtain ⟨g8, hg8⟩ : ∃ g8, wr.heap.size = g8 := ⟨_, rfl⟩
  have hu5 := (hb5.1 5 _ rfl).1
  have ho5 := (hb5.1 7 _ rfl).1
  rw [hg8] at hb5 hu5 ho5 ⊢
  have hws : IntKind.i64.wrap ((x.user.size : Int) + (x.object.size : Int)) = (x.user.size : Int) + (x.object.size : Int) := by rw [IntKind.wrap_i64]; omega
  clear hrd hth5 hW5 hone
  by_cases h400 : (400 : Int) < (x.user.size : Int) + (x.object.size : Int)
  · have hrow5 := hrow.below ent_ok.len hB5
    have hL5 := hL.below C hB5
    have hB05 := Below.then hB hB5
    clear hrow hL hB
    go_wp2_with fail
    exact ⟨⟨i + 1, st, ra, rc, F, by omega, by omega, by simp, by rw [hsn.out], by rw [hsn.out]; exact hsc, hno, hrow5, hL5, hF, Nat.le_succ_of_le hsi.out, hB05⟩, by simp [Go.RowKit.intOf]; omega⟩
  go_upto_if 39 with fail
  clear hu5 ho5 hws
  go_cut [] from 37 to 110 (fun wc => ∃ e1 : Ent, BlkL g8 (ecs e1) wc ∧ e1.Small ∧ (-9223372036854775808 ≤ e1.seq ∧ e1.seq ≤ 9223372036854775807) ∧ Below wr.heap.size wr wc)
  case first =>
    by_cases h3 : (0 : Int) < (i : Int) % 3
    · have hr5 := hb5.range
      go_wp2_with (first | (refine wpList_load_row rfl _ rfl g8 rfl (ecs x) hr5 hundE rfl hse ?_) | fail)
      refine (agood_any x W5).mono ?_
      rintro r W6 ⟨rfl, hB6⟩
      have hb6 := stab_blk _ _ _ _ hb5 hB6
      have hB06 := Below.then hB5 hB6
      obtain ⟨W7, hW7, hth7, hb7, hB7⟩ := put_mid hb6 0 (ecs (goodE x)) (by show 0 + 9 ≤ 9; decide) (by rw [ecs_len]; decide) hB06 (Nat.le_of_eq hg8)
      replace hb7 : BlkL g8 (ecs (goodE x)) W7 := hb7
      have hsm := may_small (goodE_may x)
      have hsq : -9223372036854775808 ≤ (goodE x).seq ∧ (goodE x).seq ≤ 9223372036854775807 := hxq
      have hone := ent_one (goodE x)
      clear hr5 hb6
      go_wp2_with (first | (refine wpList_store_row rfl _ _ rfl g8 rfl (ecs (goodE x)) rfl hth7 hse hone hW7 ?_) | fail)
      go_meet
      exact ⟨_, hb7, hsm, hsq, hB7⟩
    · go_wp2_with fail
      go_meet
      exact ⟨x, hb5, ⟨by omega, by omega⟩, hxq, hB5⟩
  case rest =>
  clear hb5 hB5 hl8 h400 hxq hxz
  obtain ⟨e1, hbe, hsm, heq, hBx⟩ := hcut
  obtain ⟨X0, hX0⟩ : ∃ X0, X0 = wc := ⟨_, rfl⟩
  subst hX0
  have hrow0 := hrow.below ent_ok.len hBx
  have hB0 := Below.then hB hBx
  have hst := hL.ok
  have hs120 : st.length ≤ 120 := Nat.le_trans hsi.out hi120
  have kadd := raAdd_any ra rc st e1 (by omega) (by rw [hsn.out]; exact hsc) hno X0 hrow0
  have hlen2 := add_lenA st e1
  obtain ⟨E, hE⟩ : ∃ E, audErr st e1 = E := ⟨_, rfl⟩
  obtain ⟨N, hN⟩ : ∃ N, audAdd st e1 = N := ⟨_, rfl⟩
  rw [hsn.out, hE, hN] at kadd
  rw [hN] at hlen2
  have hNi : Aside (N.length ≤ i + 1) := Nat.le_trans hlen2 (Nat.succ_le_succ hsi.out)
  replace hE : Aside (audErr st e1 = E) := hE
  replace hN : Aside (audAdd st e1 = N) := hN
  have hre := hbe.range
  clear hlen2 hrow hsc
  go_wp2_with (first | (refine wpList_load_row rfl _ rfl g8 rfl (ecs e1) hre hundE rfl hse ?_) | fail)
  refine kadd.mono ?_
  rintro r W7 ⟨r2, c2, rfl, hc2, hn2, hrow7, hB7, hwhere⟩
  have hBx7 := Below.then hBx hB7
  have hbe7 := stab_blk _ _ _ _ hbe hB7
  obtain ⟨F', hL7, hgF, hF'⟩ := hL.both C hBx7 ⟨Nat.le_of_eq hg8, hbe7.2⟩ hF (hwhere.imp id fun q y hy => ⟨Nat.le_trans hBx.size (q y hy).1, (q y hy).2⟩)
  have hB07 := Below.then hB0 hB7
  have kad := hL7.add C e1 hsm hB07.size (by omega) (hI _ hB07)
  rw [hE.out, hN.out] at kad
  have hre7 := hbe7.range
  clear kadd hwhere hL hF hBx hBx7 hbe hre hrow0 hB0 hB7
  go_wp2_with (first | (refine wpList_load_row rfl _ rfl g8 rfl (ecs e1) hre7 hundE rfl hse ?_) | fail)
  refine kad.mono ?_
  rintro r W8 ⟨rfl, hL8, hB8, hk8⟩
  have hbe8 : BlkL g8 (ecs e1) W8 := ⟨hbe7.1.same (hk8 g8 hgF), Nat.lt_of_lt_of_le hbe7.2 hB8.size⟩
  have hrow8 := hrow7.keepB (fun y hy => hk8 _ (hF' y hy))
  have hB08 : Below w.heap.size w W8 := hB07.trans hB8
  have hcl := ebox_lab hbe8
  clear kad hre7 hL7 hbe7 hrow7 hB07 hB8 hk8
  go_wp2_with (first | (refine wpList_load_at rfl _ rfl ⟨g8, 1, none⟩ rfl (lab4 e1.label) hcl hundL rfl hsl ?_) | fail)
  refine (good_any e1.label W8).mono ?_
  rintro r W9 ⟨rfl, hB9⟩
  have hGt0 := good_GL e1.label
  generalize goodL e1.label = t0 at *
  have hb11 := blkl_alloc W9 (lab4 t0).toArray 28
  have hB10 := alloc_below W9 (.cells (lab4 t0).toArray 28)
  replace hb11 : BlkL W9.heap.size (lab4 t0) (W9.alloc (.cells (lab4 t0).toArray 28)) := hb11
  clear hcl
  go_upto_region 17 with fail
  generalize W9.alloc (.cells #[.int .i64 t0.s, .int .i64 t0.c, .int .i64 t0.i, .int .i64 t0.k] 28) = W10 at *
  obtain ⟨g11, hg11⟩ : ∃ g11, W9.heap.size = g11 := ⟨_, rfl⟩
  rw [hg11] at hb11 ⊢
  have hB8x := Below.then hB9 hB10
  have h89 : W8.heap.size ≤ g11 := by rw [← hg11]; exact hB9.size
  clear hB9 hB10 hg11
  go_upto_if 60 with fail
  go_cut [] from 57 to 110 (fun wc => ∃ t : Lab, GL t ∧ BlkL g11 (lab4 t) wc ∧ Below W8.heap.size W8 wc)
  case first =>
    by_cases hlt : (i : Int) < (m : Int)
    · obtain ⟨kx, hkx⟩ : ∃ kx, ks[i]? = some kx := ⟨_, List.getElem?_eq_getElem (by rw [hm.out]; omega)⟩
      obtain ⟨y2, rfl, -⟩ := h2 i kx hkx
      have hrk := (RowAt.below (f := lcells) (fun _ => rfl) h2 (Below.then hB08 hB8x)).at (f := lcells) (fun _ => rfl) hkx
      replace hrk : CellsAt W10 (y2.add (i * 4)) (lab4 kx) := hrk
      go_wp2_with (first | (refine wpList_load_at rfl _ rfl (y2.add (i * 4)) rfl (lab4 kx) hrk hundL rfl hsl ?_) | fail)
      refine (good_any kx W10).mono ?_
      rintro r W11 ⟨rfl, hB11⟩
      have hb12 := stab_blk _ _ _ _ hb11 hB11
      have hB12 := Below.then hB8x hB11
      obtain ⟨W12, hW12, hth12, hb13, hB13⟩ := put_mid hb12 0 (lab4 (goodL kx)) (by show 0 + 4 ≤ 4; decide) (by show 0 < 4; decide) hB12 h89
      replace hb13 : BlkL g11 (lab4 (goodL kx)) W12 := hb13
      have hGk := good_GL kx
      clear hrk hb12
      go_wp2_with (first | (refine wpList_store_row rfl _ _ rfl g11 rfl (lab4 (goodL kx)) rfl hth12 hsl (lab4_one _) hW12 ?_) | fail)
      go_meet
      exact ⟨_, hGk, hb13, hB13⟩
    · go_wp2_with fail
      go_meet
      exact ⟨t0, hGt0, hb11, hB8x⟩
  case rest =>
  clear hb11 hB8x h89 hGt0
  obtain ⟨t, hGt, hbt, hBt⟩ := hcut
  obtain ⟨Z, hZ⟩ : ∃ Z, Z = wc := ⟨_, rfl⟩
  subst hZ
  have hLZ := hL8.below C hBt
  have hrowZ := hrow8.below ent_ok.len hBt
  have hbeZ := stab_blk _ _ _ _ hbe8 hBt
  have hBZ := Below.then hB08 hBt
  obtain ⟨S3, hq3, -⟩ := hLZ.q
  have hN200 : N.length ≤ 200 := by have := hNi.out; omega
  have hNo := hLZ.ok
  have kall := fun W (q : Below Z.heap.size Z W) => C.all t hGt W (hI _ (Below.then hBZ q)) (C.below hq3 q) hNo hN200
  have krall : ∀ W, Below Z.heap.size Z W → Calls Tryz.prog 12 #[.slice r2 N.length c2, t.v] W fun e w' => ∃ v, e = .returned v ∧ TellE w' W.heap.size v (audAll N t) ∧ Below W.heap.size W w' := fun W q => (raAll_any r2 c2 N t (by omega) W (hrowZ.below ent_ok.len q)).mono fun e w' ⟨v, h1, h2, h3⟩ => ⟨v, h1, tell_own h2, h3⟩
  have kseen := fun W (q : Below Z.heap.size Z W) => C.seen t hGt W (hI _ (Below.then hBZ q)) (C.below hq3 q) hNo hN200
  have krseen : ∀ W, Below Z.heap.size Z W → Calls Tryz.prog 14 #[.slice r2 N.length c2, t.v] W fun e w' => ∃ v, e = .returned v ∧ TellE w' W.heap.size v (audSeen N t) ∧ Below W.heap.size W w' := fun W q => (raSeen_any r2 c2 N t (by omega) W (hrowZ.below ent_ok.len q)).mono fun e w' ⟨v, h1, h2, h3⟩ => ⟨v, h1, tell_own h2, h3⟩
  have kfull := fun W (q : Below Z.heap.size Z W) => C.full t hGt W (hI _ (Below.then hBZ q)) (C.below hq3 q) hNo hN200
  have krfull := fun W (q : Below Z.heap.size Z W) => raFull_any r2 c2 N t (by omega) W (hrowZ.below ent_ok.len q)
  have kch := fun W (q : Below Z.heap.size Z W) => C.chain t hGt W (hI _ (Below.then hBZ q)) (C.below hq3 q) hNo hN200
  have krch := fun W (q : Below Z.heap.size Z W) => raChain_any r2 c2 N t (by omega) (fun e he => may_small (hNo.ok e he)) W (hrowZ.below ent_ok.len q)
  have hA1 : (audAll N t).length ≤ 100000 := Nat.le_trans (List.length_filter_le _ _) (by omega)
  have hA2 : (audSeen N t).length ≤ 100000 := Nat.le_trans (List.length_filter_le _ _) (by omega)
  generalize audAll N t = R1 at *
  generalize audSeen N t = R2 at *
  generalize audFull N t = D at *
  generalize audChain N t = ch at *
  have ksame := fun (xa ya : Option Addr) (xc yc : Nat) W (hx : RowE W xa R1) (hy : RowE W ya R1) => same_any xa ya xc yc R1 hA1 W hx hy
  have ksame2 := fun (xa ya : Option Addr) (xc yc : Nat) W (hx : RowE W xa R2) (hy : RowE W ya R2) => same_any xa ya xc yc R2 hA2 W hx hy
  obtain ⟨nN, hnN⟩ : ∃ nN, N.length = nN := ⟨_, rfl⟩
  rw [hnN] at krall krseen krfull krch ⊢
  replace hnN : Aside (N.length = nN) := hnN
  clear hL8 hrow8 hbe8 hB08 hBt hq3 hN200 hA1 hA2
  go_upto_region 19 with fail
  go_cut [101] from 66 to 100 (fun s101 wd => s101 = .bool false ∧ Below Z.heap.size Z wd)
  case first =>
    have hS0 : Below Z.heap.size Z Z.drew := (Below.refl _ _).drew
    refine wp_region_held_drew (S := (fun W => Below Z.heap.size Z W)) (by kernel_rfl) (by exact hS0) ?_
    intro hHeld
    generalize Z.drew = w0 at *
    refine wpAnyH_take (i := 0) (v := ?_) (by simp only [gA, gB, gC]; rfl) (by kernel_rfl) (by kernel_rfl) (by kernel_rfl) (by exact fun _ _ _ h => h) (Or.inl ⟨by rfl, ?_⟩) (by assumption) ?_; rotate_left; (focus (intro w hSw; (try dsimp only at hSw); go_simp; try with_reducible rfl)); (try simp only [Act.put, sA, sB, sC, Bool.not_true, Bool.not_false, bne_self_eq_false])
    refine wpAnyH_take (i := 1) (v := _) (by simp only [gA, gB, gC]; rfl) (by kernel_rfl) (by kernel_rfl) (by kernel_rfl) (by exact fun _ _ _ h => h) (yields_row (by rfl) _ rfl g11 rfl (lab4 t) (fun _ q => (stab_blk _ _ _ _ hbt q).range) hundL rfl hsl) (by assumption) ?_; (try simp only [Act.put, sA, sB, sC, Bool.not_true, Bool.not_false, bne_self_eq_false])
    refine wpAnyH_take (i := 3) (v := ?_) (by simp only [gA, gB, gC]; rfl) (by kernel_rfl) (by kernel_rfl) (by kernel_rfl) (by exact fun _ _ _ h => h) (Or.inl ⟨by rfl, ?_⟩) (by assumption) ?_; rotate_left; (focus (intro w hSw; (try dsimp only at hSw); go_simp; try with_reducible rfl)); (try simp only [Act.put, sA, sB, sC, Bool.not_true, Bool.not_false, bne_self_eq_false])
    refine wpAnyH_take (i := 4) (v := _) (by simp only [gA, gB, gC]; rfl) (by kernel_rfl) (by kernel_rfl) (by kernel_rfl) (by exact fun _ _ _ h => h) (yields_row (by rfl) _ rfl g11 rfl (lab4 t) (fun _ q => (stab_blk _ _ _ _ hbt q).range) hundL rfl hsl) (by assumption) ?_; (try simp only [Act.put, sA, sB, sC, Bool.not_true, Bool.not_false, bne_self_eq_false])
    refine wpAnyH_ready (rs := [2]) (by kernel_rfl) (by simp) ?_
    refine AllReadyH.cons (by simp only [gA, gB, gC]; rfl) (fun K hK => ?_) AllReadyH.nil
    go_simp
    go_at_call 11
    refine (kall w0 hS0).mono ?_
    rintro e w1 ⟨v, rfl, ⟨⟨xa, xc, rfl, -, -, hx⟩, -⟩, hb⟩
    have hS1 := Below.then hS0 hb
    clear hb
    refine hK.out _ _ (by exact hS1) ?_
    clear hHeld hK
    intro hHeld
    (try simp only [Act.put, sA, sB, sC, Bool.not_true, Bool.not_false, bne_self_eq_false])
    refine wpAnyH_ready (rs := [5]) (by kernel_rfl) (by simp) ?_
    refine AllReadyH.cons (by simp only [gA, gB, gC]; rfl) (fun K hK => ?_) AllReadyH.nil
    go_simp
    go_at_call 12
    refine (krall w1 hS1).mono ?_
    rintro e w2 ⟨v, rfl, ⟨⟨ya, yc, rfl, -, -, hy⟩, -⟩, hb⟩
    have hS2 := Below.then hS1 hb
    replace hx := hx.below ent_ok.len hb
    clear hb
    refine hK.out _ _ (by exact hS2) ?_
    clear hHeld hK
    intro hHeld
    (try simp only [Act.put, sA, sB, sC, Bool.not_true, Bool.not_false, bne_self_eq_false])
    refine wpAnyH_ready (rs := [6]) (by kernel_rfl) (by simp) ?_
    refine AllReadyH.cons (by simp only [gA, gB, gC]; rfl) (fun K hK => ?_) AllReadyH.nil
    go_simp
    go_at_call 10
    refine (ksame xa ya xc yc w2 hx hy).mono ?_
    rintro e w3 ⟨rfl, hb⟩
    have hS3 := Below.then hS2 hb
    clear hx hy
    clear hb
    refine hK.out _ _ (by exact hS3) ?_
    clear hHeld hK
    intro hHeld
    (try simp only [Act.put, sA, sB, sC, Bool.not_true, Bool.not_false, bne_self_eq_false])
    refine wpAnyH_take (i := 7) (v := ?_) (by simp only [gA, gB, gC]; rfl) (by kernel_rfl) (by kernel_rfl) (by kernel_rfl) (by exact fun _ _ _ h => h) (Or.inl ⟨by rfl, ?_⟩) (by assumption) ?_; rotate_left; (focus (intro w hSw; (try dsimp only at hSw); go_simp; try with_reducible rfl)); (try simp only [Act.put, sA, sB, sC, Bool.not_true, Bool.not_false, bne_self_eq_false])
    refine wpAnyH_take (i := 8) (v := ?_) (by simp only [gA, gB, gC]; rfl) (by kernel_rfl) (by kernel_rfl) (by kernel_rfl) (by exact fun _ _ _ h => h) (Or.inl ⟨by rfl, ?_⟩) (by assumption) ?_; rotate_left; (focus (intro w hSw; (try dsimp only at hSw); go_simp; try with_reducible rfl)); (try simp only [Act.put, sA, sB, sC, Bool.not_true, Bool.not_false, bne_self_eq_false])
    refine wpAnyH_take (i := 9) (v := ?_) (by simp only [gA, gB, gC]; rfl) (by kernel_rfl) (by kernel_rfl) (by kernel_rfl) (by exact fun _ _ _ h => h) (Or.inl ⟨by rfl, ?_⟩) (by assumption) ?_; rotate_left; (focus (intro w hSw; (try dsimp only at hSw); go_simp; try with_reducible rfl)); (try simp only [Act.put, sA, sB, sC, Bool.not_true, Bool.not_false, bne_self_eq_false])
    refine wpAnyH_take (i := 10) (v := _) (by simp only [gA, gB, gC]; rfl) (by kernel_rfl) (by kernel_rfl) (by kernel_rfl) (by exact fun _ _ _ h => h) (yields_row (by rfl) _ rfl g11 rfl (lab4 t) (fun _ q => (stab_blk _ _ _ _ hbt q).range) hundL rfl hsl) (by assumption) ?_; (try simp only [Act.put, sA, sB, sC, Bool.not_true, Bool.not_false, bne_self_eq_false])
    refine wpAnyH_take (i := 12) (v := ?_) (by simp only [gA, gB, gC]; rfl) (by kernel_rfl) (by kernel_rfl) (by kernel_rfl) (by exact fun _ _ _ h => h) (Or.inl ⟨by rfl, ?_⟩) (by assumption) ?_; rotate_left; (focus (intro w hSw; (try dsimp only at hSw); go_simp; try with_reducible rfl)); (try simp only [Act.put, sA, sB, sC, Bool.not_true, Bool.not_false, bne_self_eq_false])
    refine wpAnyH_take (i := 13) (v := _) (by simp only [gA, gB, gC]; rfl) (by kernel_rfl) (by kernel_rfl) (by kernel_rfl) (by exact fun _ _ _ h => h) (yields_row (by rfl) _ rfl g11 rfl (lab4 t) (fun _ q => (stab_blk _ _ _ _ hbt q).range) hundL rfl hsl) (by assumption) ?_; (try simp only [Act.put, sA, sB, sC, Bool.not_true, Bool.not_false, bne_self_eq_false])
    refine wpAnyH_ready (rs := [11]) (by kernel_rfl) (by simp) ?_
    refine AllReadyH.cons (by simp only [gA, gB, gC]; rfl) (fun K hK => ?_) AllReadyH.nil
    go_simp
    go_at_call 13
    refine (kseen w3 hS3).mono ?_
    rintro e w4 ⟨v, rfl, ⟨⟨ua, uc, rfl, -, -, hu⟩, -⟩, hb⟩
    have hS4 := Below.then hS3 hb
    clear hb
    refine hK.out _ _ (by exact hS4) ?_
    clear hHeld hK
    intro hHeld
    (try simp only [Act.put, sA, sB, sC, Bool.not_true, Bool.not_false, bne_self_eq_false])
    refine wpAnyH_ready (rs := [14]) (by kernel_rfl) (by simp) ?_
    refine AllReadyH.cons (by simp only [gA, gB, gC]; rfl) (fun K hK => ?_) AllReadyH.nil
    go_simp
    go_at_call 14
    refine (krseen w4 hS4).mono ?_
    rintro e w5 ⟨v, rfl, ⟨⟨va, vc, rfl, -, -, hv⟩, -⟩, hb⟩
    have hS5 := Below.then hS4 hb
    replace hu := hu.below ent_ok.len hb
    clear hb
    refine hK.out _ _ (by exact hS5) ?_
    clear hHeld hK
    intro hHeld
    (try simp only [Act.put, sA, sB, sC, Bool.not_true, Bool.not_false, bne_self_eq_false])
    refine wpAnyH_ready (rs := [15]) (by kernel_rfl) (by simp) ?_
    refine AllReadyH.cons (by simp only [gA, gB, gC]; rfl) (fun K hK => ?_) AllReadyH.nil
    go_simp
    go_at_call 10
    refine (ksame2 ua va uc vc w5 hu hv).mono ?_
    rintro e w6 ⟨rfl, hb⟩
    have hS6 := Below.then hS5 hb
    clear hu hv
    clear hb
    refine hK.out _ _ (by exact hS6) ?_
    clear hHeld hK
    intro hHeld
    (try simp only [Act.put, sA, sB, sC, Bool.not_true, Bool.not_false, bne_self_eq_false])
    refine wpAnyH_take (i := 16) (v := ?_) (by simp only [gA, gB, gC]; rfl) (by kernel_rfl) (by kernel_rfl) (by kernel_rfl) (by exact fun _ _ _ h => h) (Or.inl ⟨by rfl, ?_⟩) (by assumption) ?_; rotate_left; (focus (intro w hSw; (try dsimp only at hSw); go_simp; try with_reducible rfl)); (try simp only [Act.put, sA, sB, sC, Bool.not_true, Bool.not_false, bne_self_eq_false])
    refine wpAnyH_take (i := 17) (v := ?_) (by simp only [gA, gB, gC]; rfl) (by kernel_rfl) (by kernel_rfl) (by kernel_rfl) (by exact fun _ _ _ h => h) (Or.inl ⟨by rfl, ?_⟩) (by assumption) ?_; rotate_left; (focus (intro w hSw; (try dsimp only at hSw); go_simp; try with_reducible rfl)); (try simp only [Act.put, sA, sB, sC, Bool.not_true, Bool.not_false, bne_self_eq_false])
    refine wpAnyH_take (i := 18) (v := ?_) (by simp only [gA, gB, gC]; rfl) (by kernel_rfl) (by kernel_rfl) (by kernel_rfl) (by exact fun _ _ _ h => h) (Or.inl ⟨by rfl, ?_⟩) (by assumption) ?_; rotate_left; (focus (intro w hSw; (try dsimp only at hSw); go_simp; try with_reducible rfl)); (try simp only [Act.put, sA, sB, sC, Bool.not_true, Bool.not_false, bne_self_eq_false])
    refine wpAnyH_take (i := 19) (v := ?_) (by simp only [gA, gB, gC]; rfl) (by kernel_rfl) (by kernel_rfl) (by kernel_rfl) (by exact fun _ _ _ h => h) (Or.inl ⟨by rfl, ?_⟩) (by assumption) ?_; rotate_left; (focus (intro w hSw; (try dsimp only at hSw); go_simp; try with_reducible rfl)); (try simp only [Act.put, sA, sB, sC, Bool.not_true, Bool.not_false, bne_self_eq_false])
    refine wpAnyH_take (i := 20) (v := _) (by simp only [gA, gB, gC]; rfl) (by kernel_rfl) (by kernel_rfl) (by kernel_rfl) (by exact fun _ _ _ h => h) (yields_row (by rfl) _ rfl g11 rfl (lab4 t) (fun _ q => (stab_blk _ _ _ _ hbt q).range) hundL rfl hsl) (by assumption) ?_; (try simp only [Act.put, sA, sB, sC, Bool.not_true, Bool.not_false, bne_self_eq_false])
    refine wpAnyH_take (i := 22) (v := ?_) (by simp only [gA, gB, gC]; rfl) (by kernel_rfl) (by kernel_rfl) (by kernel_rfl) (by exact fun _ _ _ h => h) (Or.inl ⟨by rfl, ?_⟩) (by assumption) ?_; rotate_left; (focus (intro w hSw; (try dsimp only at hSw); go_simp; try with_reducible rfl)); (try simp only [Act.put, sA, sB, sC, Bool.not_true, Bool.not_false, bne_self_eq_false])
    refine wpAnyH_take (i := 23) (v := _) (by simp only [gA, gB, gC]; rfl) (by kernel_rfl) (by kernel_rfl) (by kernel_rfl) (by exact fun _ _ _ h => h) (yields_row (by rfl) _ rfl g11 rfl (lab4 t) (fun _ q => (stab_blk _ _ _ _ hbt q).range) hundL rfl hsl) (by assumption) ?_; (try simp only [Act.put, sA, sB, sC, Bool.not_true, Bool.not_false, bne_self_eq_false])
    refine wpAnyH_ready (rs := [21]) (by kernel_rfl) (by simp) ?_
    refine AllReadyH.cons (by simp only [gA, gB, gC]; rfl) (fun K hK => ?_) AllReadyH.nil
    go_simp
    go_at_call 15
    refine (kfull w6 hS6).mono ?_
    rintro e w7 ⟨rfl, hb⟩
    have hS7 := Below.then hS6 hb
    clear hb
    refine hK.out _ _ (by exact hS7) ?_
    clear hHeld hK
    intro hHeld
    (try simp only [Act.put, sA, sB, sC, Bool.not_true, Bool.not_false, bne_self_eq_false])
    refine wpAnyH_ready (rs := [24]) (by kernel_rfl) (by simp) ?_
    refine AllReadyH.cons (by simp only [gA, gB, gC]; rfl) (fun K hK => ?_) AllReadyH.nil
    go_simp
    go_at_call 16
    refine (krfull w7 hS7).mono ?_
    rintro e w8 ⟨rfl, hb⟩
    have hS8 := Below.then hS7 hb
    clear hb
    refine hK.out _ _ (by exact hS8) ?_
    clear hHeld hK
    intro hHeld
    (try simp only [Act.put, sA, sB, sC, Bool.not_true, Bool.not_false, bne_self_eq_false])
    refine wpAnyH_take (i := 25) (v := ?_) (by simp only [gA, gB, gC]; rfl) (by kernel_rfl) (by kernel_rfl) (by kernel_rfl) (by exact fun _ _ _ h => h) (Or.inl ⟨by rfl, ?_⟩) (by assumption) ?_; rotate_left; (focus (intro w hSw; (try dsimp only at hSw); go_simp; try with_reducible rfl)); (try simp only [Act.put, sA, sB, sC, Bool.not_true, Bool.not_false, bne_self_eq_false])
    refine wpAnyH_take (i := 26) (v := ?_) (by simp only [gA, gB, gC]; rfl) (by kernel_rfl) (by kernel_rfl) (by kernel_rfl) (by exact fun _ _ _ h => h) (Or.inl ⟨by rfl, ?_⟩) (by assumption) ?_; rotate_left; (focus (intro w hSw; (try dsimp only at hSw); go_simp; try with_reducible rfl)); (try simp only [Act.put, sA, sB, sC, Bool.not_true, Bool.not_false, bne_self_eq_false])
    refine wpAnyH_take (i := 27) (v := ?_) (by simp only [gA, gB, gC]; rfl) (by kernel_rfl) (by kernel_rfl) (by kernel_rfl) (by exact fun _ _ _ h => h) (Or.inl ⟨by rfl, ?_⟩) (by assumption) ?_; rotate_left; (focus (intro w hSw; (try dsimp only at hSw); go_simp; try with_reducible rfl)); (try simp only [Act.put, sA, sB, sC, Bool.not_true, Bool.not_false, bne_self_eq_false])
    refine wpAnyH_take (i := 28) (v := ?_) (by simp only [gA, gB, gC]; rfl) (by kernel_rfl) (by kernel_rfl) (by kernel_rfl) (by exact fun _ _ _ h => h) (Or.inl ⟨by rfl, ?_⟩) (by assumption) ?_; rotate_left; (focus (intro w hSw; (try dsimp only at hSw); go_simp; try with_reducible rfl)); (try simp only [Act.put, sA, sB, sC, Bool.not_true, Bool.not_false, bne_self_eq_false])
    refine wpAnyH_take (i := 29) (v := _) (by simp only [gA, gB, gC]; rfl) (by kernel_rfl) (by kernel_rfl) (by kernel_rfl) (by exact fun _ _ _ h => h) (yields_row (by rfl) _ rfl g11 rfl (lab4 t) (fun _ q => (stab_blk _ _ _ _ hbt q).range) hundL rfl hsl) (by assumption) ?_; (try simp only [Act.put, sA, sB, sC, Bool.not_true, Bool.not_false, bne_self_eq_false])
    refine wpAnyH_take (i := 31) (v := ?_) (by simp only [gA, gB, gC]; rfl) (by kernel_rfl) (by kernel_rfl) (by kernel_rfl) (by exact fun _ _ _ h => h) (Or.inl ⟨by rfl, ?_⟩) (by assumption) ?_; rotate_left; (focus (intro w hSw; (try dsimp only at hSw); go_simp; try with_reducible rfl)); (try simp only [Act.put, sA, sB, sC, Bool.not_true, Bool.not_false, bne_self_eq_false])
    refine wpAnyH_take (i := 32) (v := _) (by simp only [gA, gB, gC]; rfl) (by kernel_rfl) (by kernel_rfl) (by kernel_rfl) (by exact fun _ _ _ h => h) (yields_row (by rfl) _ rfl g11 rfl (lab4 t) (fun _ q => (stab_blk _ _ _ _ hbt q).range) hundL rfl hsl) (by assumption) ?_; (try simp only [Act.put, sA, sB, sC, Bool.not_true, Bool.not_false, bne_self_eq_false])
    refine wpAnyH_ready (rs := [30]) (by kernel_rfl) (by simp) ?_
    refine AllReadyH.cons (by simp only [gA, gB, gC]; rfl) (fun K hK => ?_) AllReadyH.nil
    go_simp
    go_at_call 17
    refine (kch w8 hS8).mono ?_
    rintro e w9 ⟨rfl, hb⟩
    have hS9 := Below.then hS8 hb
    clear hb
    refine hK.out _ _ (by exact hS9) ?_
    clear hHeld hK
    intro hHeld
    (try simp only [Act.put, sA, sB, sC, Bool.not_true, Bool.not_false, bne_self_eq_false])
    refine wpAnyH_ready (rs := [33]) (by kernel_rfl) (by simp) ?_
    refine AllReadyH.cons (by simp only [gA, gB, gC]; rfl) (fun K hK => ?_) AllReadyH.nil
    go_simp
    go_at_call 18
    refine (krch w9 hS9).mono ?_
    rintro e w10 ⟨rfl, hb⟩
    have hS10 := Below.then hS9 hb
    clear hb
    refine hK.out _ _ (by exact hS10) ?_
    clear hHeld hK
    intro hHeld
    (try simp only [Act.put, sA, sB, sC, Bool.not_true, Bool.not_false, bne_self_eq_false])
    refine wpAnyH_take (i := 34) (v := ?_) (by simp only [gA, gB, gC]; rfl) (by kernel_rfl) (by kernel_rfl) (by kernel_rfl) (by exact fun _ _ _ h => h) (Or.inl ⟨by rfl, ?_⟩) (by assumption) ?_; rotate_left; (focus (intro w hSw; (try dsimp only at hSw); go_simp; try with_reducible rfl)); (try simp only [Act.put, sA, sB, sC, Bool.not_true, Bool.not_false, bne_self_eq_false])
    refine wpAnyH_take (i := 35) (v := ?_) (by simp only [gA, gB, gC]; rfl) (by kernel_rfl) (by kernel_rfl) (by kernel_rfl) (by exact fun _ _ _ h => h) (Or.inl ⟨by rfl, ?_⟩) (by assumption) ?_; rotate_left; (focus (intro w hSw; (try dsimp only at hSw); go_simp; try with_reducible rfl)); (try simp only [Act.put, sA, sB, sC, Bool.not_true, Bool.not_false, bne_self_eq_false])
    refine wpAnyH_done (by kernel_rfl) ?_ _
    have hfin := hS10
    go_wp2_with fail
    go_meet
    exact ⟨rfl, hfin⟩
  case rest =>
  clear kall krall kseen krseen kfull krfull kch krch ksame ksame2 hbt hGt
  obtain ⟨rfl, hBX⟩ := hcut
  obtain ⟨X, hX⟩ : ∃ X, X = wc := ⟨_, rfl⟩
  subst hX
  have hLX := hLZ.below C hBX
  have hrowX := hrowZ.below ent_ok.len hBX
  have hbe := stab_blk _ _ _ _ hbeZ hBX
  have hB0X := Below.then hBZ hBX
  have hi9 : Aside (N.length ≤ i + 1) := hNi
  have hS0 : Below X.heap.size X X.drew := (Below.refl _ _).drew
  clear hLZ hrowZ hbeZ hBZ hBX
  by_cases hE0 : E = 0
  · subst hE0
    have hmay : audMay e1 = 0 := (err_zero.1 hE.out).1
    have ktx := fun W (q : Below X.heap.size X W) => C.text e1 hmay heq W (hI _ (Below.then hB0X q))
    have krtx := fun W => raText_any e1 hmay heq W
    generalize audText e1 = tx at *
    go_upto_region 21 with fail
    focus
      refine wp_region_held_drew (S := (fun W => Below X.heap.size X W)) (by kernel_rfl) (by exact hS0) ?_
      intro hHeld
      generalize X.drew = w0 at *
      refine wpAnyH_take (i := 0) (v := ?_) (by simp only [gA, gB, gC]; rfl) (by kernel_rfl) (by kernel_rfl) (by kernel_rfl) (by exact fun _ _ _ h => h) (Or.inl ⟨by rfl, ?_⟩) (by assumption) ?_; rotate_left; (focus (intro w hSw; (try dsimp only at hSw); go_simp; try with_reducible rfl)); (try simp only [Act.put, sA, sB, sC, Bool.not_true, Bool.not_false])
      refine wpAnyH_take (i := 1) (v := ?_) (by simp only [gA, gB, gC]; rfl) (by kernel_rfl) (by kernel_rfl) (by kernel_rfl) (by exact fun _ _ _ h => h) (Or.inl ⟨by rfl, ?_⟩) (by assumption) ?_; rotate_left; (focus (intro w hSw; (try dsimp only at hSw); go_simp; try with_reducible rfl)); (try simp only [Act.put, sA, sB, sC, Bool.not_true, Bool.not_false])
      refine wpAnyH_take (i := 2) (v := ?_) (by simp only [gA, gB, gC]; rfl) (by kernel_rfl) (by kernel_rfl) (by kernel_rfl) (by exact fun _ _ _ h => h) (Or.inl ⟨by rfl, ?_⟩) (by assumption) ?_; rotate_left; (focus (intro w hSw; (try dsimp only at hSw); go_simp; try with_reducible rfl)); (try simp only [Act.put, sA, sB, sC, Bool.not_true, Bool.not_false])
      refine wpAnyH_take (i := 3) (v := _) (by simp only [gA, gB, gC]; rfl) (by kernel_rfl) (by kernel_rfl) (by kernel_rfl) (by exact fun _ _ _ h => h) (yields_row (by rfl) _ rfl g8 rfl (ecs e1) (fun _ q => (stab_blk _ _ _ _ hbe q).range) hundE rfl hse) (by assumption) ?_; (try simp only [Act.put, sA, sB, sC, Bool.not_true, Bool.not_false])
      refine wpAnyH_take (i := 5) (v := _) (by simp only [gA, gB, gC]; rfl) (by kernel_rfl) (by kernel_rfl) (by kernel_rfl) (by exact fun _ _ _ h => h) (yields_row (by rfl) _ rfl g8 rfl (ecs e1) (fun _ q => (stab_blk _ _ _ _ hbe q).range) hundE rfl hse) (by assumption) ?_; (try simp only [Act.put, sA, sB, sC, Bool.not_true, Bool.not_false])
      refine wpAnyH_ready (rs := [4]) (by kernel_rfl) (by simp) ?_
      refine AllReadyH.cons (by simp only [gA, gB, gC]; rfl) (fun K hK => ?_) AllReadyH.nil
      go_simp
      go_at_call 19
      refine (ktx w0 hS0).mono ?_
      rintro e w1 ⟨rfl, hb⟩
      have hS1 := Below.then hS0 hb
      clear hb
      refine hK.out _ _ (by exact hS1) ?_
      clear hHeld hK
      intro hHeld
      (try simp only [Act.put, sA, sB, sC, Bool.not_true, Bool.not_false])
      refine wpAnyH_ready (rs := [6]) (by kernel_rfl) (by simp) ?_
      refine AllReadyH.cons (by simp only [gA, gB, gC]; rfl) (fun K hK => ?_) AllReadyH.nil
      go_simp
      go_at_call 20
      refine (krtx w1).mono ?_
      rintro e w2 ⟨rfl, hb⟩
      have hS2 := Below.then hS1 hb
      clear hb
      refine hK.out _ _ (by exact hS2) ?_
      clear hHeld hK
      intro hHeld
      (try simp only [Act.put, sA, sB, sC, Bool.not_true, Bool.not_false])
      refine wpAnyH_take (i := 7) (v := ?_) (by simp only [gA, gB, gC]; rfl) (by kernel_rfl) (by kernel_rfl) (by kernel_rfl) (by exact fun _ _ _ h => h) (Or.inl ⟨by rfl, ?_⟩) (by assumption) ?_; rotate_left; (focus (intro w hSw; (try dsimp only at hSw); go_simp; try with_reducible rfl)); (try simp only [Act.put, sA, sB, sC, Bool.not_true, Bool.not_false])
      refine wpAnyH_take (i := 8) (v := ?_) (by simp only [gA, gB, gC]; rfl) (by kernel_rfl) (by kernel_rfl) (by kernel_rfl) (by exact fun _ _ _ h => h) (Or.inl ⟨by rfl, ?_⟩) (by assumption) ?_; rotate_left; (focus (intro w hSw; (try dsimp only at hSw); go_simp; try with_reducible rfl)); (try simp only [Act.put, sA, sB, sC, Bool.not_true, Bool.not_false])
      refine wpAnyH_done (by kernel_rfl) ?_ _
      have hfin := hS2
      have hL9 := hLX.below C hfin
      have hrow9 := hrowX.below ent_ok.len hfin
      have hB9 := Below.then hB0X hfin
      clear ktx krtx hLX hrowX hB0X
      go_wp2_with fail
      exact ⟨⟨i + 1, N, r2, c2, F', by omega, by omega, by simp, by rw [hnN.out], hc2, hn2, hrow9, hL9, hF', hi9, hB9⟩, by simp [Go.RowKit.intOf]; omega⟩
  · replace hE0 : (E == 0) = false := by simpa using hE0
    go_upto_region 21 with fail
    focus
      refine wp_region_held_drew (S := (fun W => Below X.heap.size X W)) (by kernel_rfl) (by exact hS0) ?_
      intro hHeld
      generalize X.drew = w0 at *
      refine wpAnyH_take (i := 0) (v := ?_) (by simp only [gA, gB, gC]; rfl) (by kernel_rfl) (by kernel_rfl) (by kernel_rfl) (by exact fun _ _ _ h => h) (Or.inl ⟨by rfl, ?_⟩) (by assumption) ?_; rotate_left; (focus (intro w hSw; (try dsimp only at hSw); go_simp; try with_reducible rfl)); (try simp only [Act.put, sA, sB, sC, hE0, Bool.not_true, Bool.not_false])
      refine wpAnyH_take (i := 1) (v := ?_) (by simp only [gA, gB, gC]; rfl) (by kernel_rfl) (by kernel_rfl) (by kernel_rfl) (by exact fun _ _ _ h => h) (Or.inl ⟨by rfl, ?_⟩) (by assumption) ?_; rotate_left; (focus (intro w hSw; (try dsimp only at hSw); go_simp; try with_reducible rfl)); (try simp only [Act.put, sA, sB, sC, hE0, Bool.not_true, Bool.not_false])
      refine wpAnyH_take (i := 2) (v := ?_) (by simp only [gA, gB, gC]; rfl) (by kernel_rfl) (by kernel_rfl) (by kernel_rfl) (by exact fun _ _ _ h => h) (Or.inl ⟨by rfl, ?_⟩) (by assumption) ?_; rotate_left; (focus (intro w hSw; (try dsimp only at hSw); go_simp; try with_reducible rfl)); (try simp only [Act.put, sA, sB, sC, hE0, Bool.not_true, Bool.not_false])
      refine wpAnyH_take (i := 3) (v := undef) (by simp only [gA, gB, gC]; rfl) (by kernel_rfl) (by kernel_rfl) (by kernel_rfl) (by exact fun _ _ _ h => h) (Or.inr ⟨by rfl, rfl⟩) (by assumption) ?_; (try simp only [Act.put, sA, sB, sC, hE0, Bool.not_true, Bool.not_false])
      refine wpAnyH_take (i := 4) (v := undef) (by simp only [gA, gB, gC]; rfl) (by kernel_rfl) (by kernel_rfl) (by kernel_rfl) (by exact fun _ _ _ h => h) (Or.inr ⟨by rfl, rfl⟩) (by assumption) ?_; (try simp only [Act.put, sA, sB, sC, hE0, Bool.not_true, Bool.not_false])
      refine wpAnyH_take (i := 5) (v := undef) (by simp only [gA, gB, gC]; rfl) (by kernel_rfl) (by kernel_rfl) (by kernel_rfl) (by exact fun _ _ _ h => h) (Or.inr ⟨by rfl, rfl⟩) (by assumption) ?_; (try simp only [Act.put, sA, sB, sC, hE0, Bool.not_true, Bool.not_false])
      refine wpAnyH_take (i := 6) (v := undef) (by simp only [gA, gB, gC]; rfl) (by kernel_rfl) (by kernel_rfl) (by kernel_rfl) (by exact fun _ _ _ h => h) (Or.inr ⟨by rfl, rfl⟩) (by assumption) ?_; (try simp only [Act.put, sA, sB, sC, hE0, Bool.not_true, Bool.not_false])
      refine wpAnyH_take (i := 7) (v := undef) (by simp only [gA, gB, gC]; rfl) (by kernel_rfl) (by kernel_rfl) (by kernel_rfl) (by exact fun _ _ _ h => h) (Or.inr ⟨by rfl, rfl⟩) (by assumption) ?_; (try simp only [Act.put, sA, sB, sC, hE0, Bool.not_true, Bool.not_false])
      refine wpAnyH_take (i := 8) (v := ?_) (by simp only [gA, gB, gC]; rfl) (by kernel_rfl) (by kernel_rfl) (by kernel_rfl) (by exact fun _ _ _ h => h) (Or.inl ⟨by rfl, ?_⟩) (by assumption) ?_; rotate_left; (focus (intro w hSw; (try dsimp only at hSw); go_simp; try with_reducible rfl)); (try simp only [Act.put, sA, sB, sC, hE0, Bool.not_true, Bool.not_false])
      refine wpAnyH_done (by kernel_rfl) ?_ _
      have hfin := hS0
      have hL9 := hLX.below C hfin
      have hrow9 := hrowX.below ent_ok.len hfin
      have hB9 := Below.then hB0X hfin
      clear hLX hrowX hB0X
      go_wp2_with fail
      exact ⟨⟨i + 1, N, r2, c2, F', by omega, by omega, by simp, by rw [hnN.out], hc2, hn2, hrow9, hL9, hF', hi9, hB9⟩, by simp [Go.RowKit.intOf]; omega⟩
end Go.Proofs.YtohocomemkckeaaGreatDoor
