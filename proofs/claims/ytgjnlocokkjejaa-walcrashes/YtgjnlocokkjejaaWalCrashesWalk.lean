/-
  WHEREVER THE DISK STOPS, WITHIN A COMMIT OR WITHIN THE OPENING BEHIND IT: the law's walk.
-/
import Derived.Test.YtgjnlocokkjejaaWalTwice
namespace Go.Proofs.Ytgjnlocokkjejaa
open Go.RowKit Go.Maps Go.Deep

set_option maxRecDepth 20000 in
set_option maxHeartbeats 16000000 in
theorem crashes_walk (a0 a2 a3 : Option Addr) (len0 cap0 len2 cap2 len3 cap3 : Nat) (stop : Int) (zs ag : List Int) (w : World) (hG : GroupsAt w a0 len0) (hZ : NumsAt w a2 len2 zs) (hA : NumsAt w a3 len3 ag) (hm3 : (len3 : Int) ≤ 9223372036854775807) :
    Calls Try.prog 4 #[.slice a0 len0 cap0, .int .i64 stop, .slice a2 len2 cap2, .slice a3 len3 cap3] w fun e w' => e = .returned (.bool true) ∧ Below w.heap.size w w' := by
  have hm0 : (len0 : Int) ≤ 9223372036854775807 := by
    rcases hG with ⟨_, h⟩ | ⟨x, _, h, _⟩
    · omega
    · unfold maxLen at h; omega
  have cK := known_any w
  go_enter Try.func4, Try.ntmps4
  go_wp2_with fail
  refine cK.mono ?_
  rintro e w0 ⟨rfl, k0⟩
  clear cK
  by_cases h60 : 60 < len2
  · have h60' : (60 : Int) < (len2 : Int) := by omega
    have hb : Below w.heap.size w w0 := k0.to_below (Nat.le_refl _) (by simp)
    go_wp2
    go_ret
    exact ⟨rfl, hb⟩
  have h60' : ¬ (60 : Int) < (len2 : Int) := by omega
  have cN := newDisk 60 (by decide) (by decide) w0
  go_wp2_with fail
  refine cN.mono ?_
  rintro e w1 ⟨db, pb, mb, rfl, hD, hdb, hpb, hmb, k1⟩
  clear cN
  have cO := open_idle hD rfl (by decide) fresh_idle
  go_wp2_with fail
  refine cO.mono ?_
  rintro e w2 ⟨lb, rfl, hlb, La, k2⟩
  clear cO hD
  have hs0 := k0.size
  have hs1 := k1.size
  have cW := withinAt stop 300 (by decide) (by decide) w2
  have hk0 := Int.emod_nonneg stop (show (300 : Int) ≠ 0 by decide)
  have hk1 := Int.emod_lt_of_pos stop (show (0 : Int) < 300 by decide)
  have k02 := k0.trans (k1.trans k2)
  clear k0 k1 k2
  go_wp2_with fail
  refine cW.mono ?_
  rintro e w3 ⟨rfl, k3⟩
  clear cW
  obtain ⟨st, hst⟩ : ∃ st, 1 + stop % 300 = st := ⟨_, rfl⟩
  have hst0 : 0 ≤ st := by omega
  have hst1 : st < 1000000 := by omega
  have Lb := La.same k3
  have cS := stopAt Lb.disk st hst0 hst1
  go_wp2_with fail
  refine cS.mono ?_
  rintro e w4 ⟨rfl, d4, k4⟩
  clear cS hst hk0 hk1 La
  have L4 := Lb.turn (k4.mono (by simp)) d4
  have k04 : Kept [] w w4 := ((k02.trans k3).mono (by simp)).trans k4 |>.fewer (by simp; omega)
  clear Lb d4 k4 k3 k02
  obtain ⟨V0, hV0⟩ : ∃ V0, w4.alloc (.cells (stCells noTexts).toArray 58) = V0 := ⟨_, rfl⟩
  obtain ⟨V1, hV1⟩ : ∃ V1, V0.alloc (.cells (stCells noTexts).toArray 58) = V1 := ⟨_, rfl⟩
  have s0 : StAt V0 w4.heap.size noTexts := by rw [← hV0]; exact st_new w4 _ (by simp [noTexts])
  have n0 : StAt V1 V0.heap.size noTexts := by rw [← hV1]; exact st_new V0 _ (by simp [noTexts])
  have kV : Kept [] w4 V0 := by rw [← hV0]; exact Kept.of_alloc _ _ _
  have kU : Kept [] V0 V1 := by rw [← hV1]; exact Kept.of_alloc _ _ _
  have hsz : V0.heap.size = w4.heap.size + 1 := by rw [← hV0]; simp
  have ht0 : Tells (fun _ => zeros) noTexts := fun k hk => by
    have : noTexts.getD k ⟨#[]⟩ = ⟨#[]⟩ := by rw [noTexts, List.getD_eq_getElem?_getD, List.getElem?_replicate, if_pos hk]; rfl
    rw [this]; rfl
  have L5 := (L4.same kV).same kU
  obtain ⟨sb, hsb⟩ : ∃ sb, w4.heap.size = sb := ⟨_, rfl⟩
  obtain ⟨nb, hnb⟩ : ∃ nb, V0.heap.size = nb := ⟨_, rfl⟩
  have hf : Far w db pb mb lb sb nb := ⟨by omega, by omega, by omega, by omega, by have := L4.disk.dbl; omega, by have := L4.disk.pbl; omega, by have := L4.disk.mbl; omega, by have := L4.lbl; omega, by omega⟩
  have hL1 : L1 w db pb mb lb sb nb V1 0 noTexts noTexts { freshDsk with left := st } 0 := ⟨L5.disk, by omega, by rw [← hsb]; exact s0.kept kU (by simp), by rw [← hnb]; exact n0, live_out rfl (fresh_idleN 60) (by decide) (by decide) ht0, (k04.trans kV).trans kU, fun _ => ⟨_, _, 0, L5, rfl, fresh_idleN 60, by omega, by omega, ht0⟩⟩
  clear L4 L5 s0 n0 k04 kV kU hsz ht0 hs0 hs1 hdb hpb hmb hlb
  go_wp2_with (first
    | (refine wpList_alloc_st rfl rfl hV0 ?_)
    | (refine wpList_alloc_st rfl rfl hV1 ?_)
    | fail)
  clear hV0 hV1 hsb hnb
  go_loopw [15] (fun t15 wr => ∃ (q : Int) (S N : List ByteArray) (σ : Dsk) (B : Nat), 0 ≤ q ∧ q ≤ 25 ∧ t15 = .int .i64 q ∧ L1 w db pb mb lb sb nb wr q S N σ B) (fun t15 _ => 25 - (Go.RowKit.intOf t15).toNat)
  case atStart => exact ⟨0, _, _, _, 0, by omega, by omega, rfl, hL1⟩
  case round =>
    obtain ⟨q, S, N, σ, B, hq0, hq1, rfl, hl⟩ := hrel
    clear hL1
    by_cases hgo : q < len0 ∧ q < 25
    · obtain ⟨g1, g2⟩ := hgo
      have cX := deadAt hl.disk
      cases hdd : σ.dead with
      | true =>
        rw [hdd] at cX
        clear hG
        go_wp2_with fail
        refine cX.mono ?_
        rintro e wx ⟨rfl, kx⟩
        have hl := hl.on kx
        clear cX kx hdd
        go_wp2_with fail
        have hL2 : L2 w db pb mb sb nb S N _ 0 σ B := ⟨hl.disk, by have := hl.few; omega, hl.s, hl.n, hl.safe, hl.kept⟩
        clear hl
        go_loopw [17] (fun t17 wr => ∃ (q2 : Int) (σ2 : Dsk) (B2 : Nat), 0 ≤ q2 ∧ q2 ≤ 4 ∧ t17 = .int .i64 q2 ∧ L2 w db pb mb sb nb S N wr q2 σ2 B2) (fun t17 _ => 4 - (Go.RowKit.intOf t17).toNat)
        case atStart => exact ⟨0, σ, B, by omega, by omega, rfl, hL2⟩
        case round =>
          obtain ⟨q2, σ2, B2, h20, h21, rfl, hm⟩ := hrel
          clear hL2
          obtain ⟨f1, f2, f3, f4, f5, f6, f7, f8, f9⟩ := id hf
          by_cases hgo2 : q2 < len3 ∧ q2 < 4
          · obtain ⟨e1, e2⟩ := hgo2
            have cX := crashAt hm.disk (by have := hm.few; omega) hZ hm.kept hf.p cap2
            go_wp2_with fail
            refine cX.mono ?_
            rintro e w6 ⟨r6, rfl, p6, hp6, d6, k6⟩
            clear cX
            obtain ⟨V, t, ⟨hV, ht0, ht1⟩, hp⟩ := hm.safe p6 hp6
            have hB2 := hm.few
            have s6 := hm.s.kept k6 (by simp; omega)
            have n6 := hm.n.kept k6 (by simp; omega)
            have kk6 : Kept [] w w6 := (hm.kept.mono (by simp)).trans k6 |>.fewer (by simp; omega)
            clear hm hp6 k6
            obtain ⟨y, rfl, hy⟩ := (hA.grown kk6).2 (by omega)
            have cy := hy q2.toNat (by omega)
            obtain ⟨z, hz⟩ : ∃ z, ag.getD q2.toNat 0 = z := ⟨_, rfl⟩
            rw [hz] at cy
            clear hy hz
            have cW := withinAt z 12 (by decide) (by decide) w6
            go_wp2_with fail
            refine cW.mono ?_
            rintro e w7 ⟨rfl, k7⟩
            clear cW cy
            have hz0 := Int.emod_nonneg z (show (12 : Int) ≠ 0 by decide)
            have hz1 := Int.emod_lt_of_pos z (show (0 : Int) < 12 by decide)
            obtain ⟨st, hst⟩ : ∃ st, 1 + z % 12 = st := ⟨_, rfl⟩
            have hst0 : 0 ≤ st := by omega
            have hst1 : st < 1000000 := by omega
            have cS := stopAt (d6.kept k7 (by simp) (by simp) (by simp)) st hst0 hst1
            go_wp2_with fail
            refine cS.mono ?_
            rintro e w8 ⟨rfl, d8, k8⟩
            clear cS hst hz0 hz1 d6
            have kk7 := k7.trans (Kept.refl [] w7)
            have s8 := (s6.kept k7 (by simp)).kept k8 (by simp; omega)
            have n8 := (n6.kept k7 (by simp)).kept k8 (by simp; omega)
            have kk8 : Kept [] w w8 := ((kk6.trans k7).mono (by simp)).trans k8 |>.fewer (by simp; omega)
            have cO := open_cut d8 (by decide) (by omega) ht0 (by omega) hp
            clear kk7 s6 n6 kk6 k7 k8 d8 hp
            go_wp2_with fail
            refine cO.mono ?_
            rintro e w9 ⟨⟨xx, cc, rfl⟩, ⟨σ9, d9, sf9⟩, k9⟩
            clear cO
            have hL3 : L2 w db pb mb sb nb S N w9 (q2 + 1) σ9 (B2 + 43) := ⟨d9, by omega, s8.kept k9 (by simp; omega), n8.kept k9 (by simp; omega), sf9.more fun V' t' ⟨a, b⟩ => by subst a; subst b; exact ⟨hV, ht0, ht1⟩, (kk8.mono (by simp)).trans k9 |>.fewer (by simp; omega)⟩
            clear d9 sf9 s8 n8 kk8 k9 hV
            go_wp2_with fail
            go_roundw
            case rel => exact ⟨q2 + 1, σ9, B2 + 43, by omega, by omega, rfl, hL3⟩
            case measure => simp [Go.RowKit.intOf]; omega
          · by_cases e1 : q2 < len3
            · have e2 : ¬ q2 < 4 := fun h => hgo2 ⟨e1, h⟩
              clear hgo2 hA
              have cX := crashAt hm.disk (by have := hm.few; omega) hZ hm.kept hf.p cap2
              go_wp2_with fail
              refine cX.mono ?_
              rintro e w6 ⟨r6, rfl, p6, hp6, d6, k6⟩
              clear cX
              obtain ⟨V, t, ⟨hV, ht0, ht1⟩, hp⟩ := hm.safe p6 hp6
              have hB2 : B2 < 400000 := by have := hm.few; omega
              have s6 := hm.s.kept k6 (by simp; omega)
              have n6 := hm.n.kept k6 (by simp; omega)
              have kk6 : Kept [] w w6 := (hm.kept.mono (by simp)).trans k6 |>.fewer (by simp; omega)
              clear hm hp6
              have cO := reopen2 d6 (by decide) (by omega) ht0 (by omega) hp
              go_wp2_with fail
              refine cO.mono ?_
              rintro e w7 ⟨lh, rfl, hlh, W7, ⟨σ7, d7, sf7⟩, k7⟩
              clear cO d6 hp
              have hs6 := n6.lt
              have hkz := kk6.size
              have hF : FsZ w db pb mb lh sb nb S N V t σ7 (B2 + 43) w7 := ⟨s6.kept k7 (by simp; omega), n6.kept k7 (by simp; omega), W7, d7, (kk6.mono (by simp)).trans k7 |>.fewer (by simp; omega)⟩
              have hsl := s6.len
              have hnl := n6.len
              have fon : ∀ {X Y : World}, FsZ w db pb mb lh sb nb S N V t σ7 (B2 + 43) X → Works Y lh db pb mb 60 (B2 + 43) V t → Kept [lh] X Y → FsZ w db pb mb lh sb nb S N V t σ7 (B2 + 43) Y := fun h hw k => h.on hw k (by omega) (by omega) (by omega) (by omega) (by omega) (by omega)
              clear s6 n6 W7 d7 k6 k7 kk6
              obtain ⟨b1, b2, hb1, hb2⟩ : ∃ b1 b2 : Bool, (b1 = true ↔ Tells V S) ∧ (b2 = true ↔ Tells V N) := by classical exact ⟨decide (Tells V S), decide (Tells V N), decide_eq_true_iff, decide_eq_true_iff⟩
              have cH1 : ∀ X, FsZ w db pb mb lh sb nb S N V t σ7 (B2 + 43) X → Calls Try.prog 30 #[.pointer (some ⟨lh, 0, none⟩), stOf S] X fun e Y => e = .returned (.bool b1) ∧ FsZ w db pb mb lh sb nb S N V t σ7 (B2 + 43) Y := fun X hX => (holds_any hX.works S hsl).mono fun e Y ⟨b, he, hb, hw, hk⟩ => ⟨by rw [he, show b = b1 from Bool.eq_iff_iff.2 (hb.trans hb1.symm)], fon hX hw hk⟩
              have cH2 : ∀ X, FsZ w db pb mb lh sb nb S N V t σ7 (B2 + 43) X → Calls Try.prog 30 #[.pointer (some ⟨lh, 0, none⟩), stOf N] X fun e Y => e = .returned (.bool b2) ∧ FsZ w db pb mb lh sb nb S N V t σ7 (B2 + 43) Y := fun X hX => (holds_any hX.works N hnl).mono fun e Y ⟨b, he, hb, hw, hk⟩ => ⟨by rw [he, show b = b2 from Bool.eq_iff_iff.2 (hb.trans hb2.symm)], fon hX hw hk⟩
              have cS1 : ∀ X, FsZ w db pb mb lh sb nb S N V t σ7 (B2 + 43) X → Calls Try.prog 31 #[.pointer (some ⟨lh, 0, none⟩)] X fun e Y => e = .returned (.int .i64 t) ∧ FsZ w db pb mb lh sb nb S N V t σ7 (B2 + 43) Y := fun X hX => (seq_works hX.works).mono fun e Y ⟨he, hw, hk⟩ => ⟨he, fon hX hw hk⟩
              go_wp2_with fail
              refine wp_region_held_drew (S := FsZ w db pb mb lh sb nb S N V t σ7 (B2 + 43)) (by kernel_rfl) (hF.drew) ?_
              intro hHeld
              clear hF
              refine wpAnyH_take (i := 0) (v := ?_) (by simp only [List.getElem?_toArray, List.getElem?_cons_zero]; rfl) (by kernel_rfl) (by kernel_rfl) (by kernel_rfl) (by exact fun _ _ _ h => h) (Or.inl ⟨by rfl, ?_⟩) (by assumption) ?_; rotate_left; (focus (intro w hSw; go_simp; try with_reducible rfl)); simp only [Act.put, List.setIfInBounds_toArray, List.set_cons_zero, List.set_cons_succ]
              refine wpAnyH_take (i := 1) (v := stOf S) (by simp only [List.getElem?_toArray, List.getElem?_cons_zero, List.getElem?_cons_succ]; rfl) (by kernel_rfl) (by kernel_rfl) (by kernel_rfl) (by exact fun _ _ _ h => h) (yieldsIf_load_mid (by rfl) _ _ rfl sb 0 rfl (stCells S) _ (fun W hW => hW.s.cells) Try.underlying58 rfl (by rw [size_st, st_len, hsl])) (by assumption) ?_; simp only [Act.put, List.setIfInBounds_toArray, List.set_cons_zero, List.set_cons_succ]
              refine wpAnyH_take (i := 3) (v := ?_) (by simp only [List.getElem?_toArray, List.getElem?_cons_zero, List.getElem?_cons_succ]; rfl) (by kernel_rfl) (by kernel_rfl) (by kernel_rfl) (by exact fun _ _ _ h => h) (Or.inl ⟨by rfl, ?_⟩) (by assumption) ?_; rotate_left; (focus (intro w hSw; go_simp; try with_reducible rfl)); simp only [Act.put, List.setIfInBounds_toArray, List.set_cons_zero, List.set_cons_succ]
              refine wpAnyH_take (i := 4) (v := stOf N) (by simp only [List.getElem?_toArray, List.getElem?_cons_zero, List.getElem?_cons_succ]; rfl) (by kernel_rfl) (by kernel_rfl) (by kernel_rfl) (by exact fun _ _ _ h => h) (yieldsIf_load_mid (by rfl) _ _ rfl nb 0 rfl (stCells N) _ (fun W hW => hW.n.cells) Try.underlying58 rfl (by rw [size_st, st_len, hnl])) (by assumption) ?_; simp only [Act.put, List.setIfInBounds_toArray, List.set_cons_zero, List.set_cons_succ]
              refine wpAnyH_take (i := 6) (v := ?_) (by simp only [List.getElem?_toArray, List.getElem?_cons_zero, List.getElem?_cons_succ]; rfl) (by kernel_rfl) (by kernel_rfl) (by kernel_rfl) (by exact fun _ _ _ h => h) (Or.inl ⟨by rfl, ?_⟩) (by assumption) ?_; rotate_left; (focus (intro w hSw; go_simp; try with_reducible rfl)); simp only [Act.put, List.setIfInBounds_toArray, List.set_cons_zero, List.set_cons_succ]
              refine wpAnyH_ready (rs := [2]) (by kernel_rfl) (by simp) ?_
              refine AllReadyH.cons (by simp only [List.getElem?_toArray, List.getElem?_cons_zero, List.getElem?_cons_succ]; rfl) (fun K hK => ?_) AllReadyH.nil
              go_simp
              go_at_call 30
              refine (cH1 _ hHeld).mono ?_
              rintro e x2 ⟨rfl, hG2⟩
              refine hK.out _ _ (hG2) ?_
              clear hHeld hK
              intro hHeld
              (try simp only [Act.put, List.setIfInBounds_toArray, List.set_cons_zero, List.set_cons_succ])
              refine wpAnyH_ready (rs := [5]) (by kernel_rfl) (by simp) ?_
              refine AllReadyH.cons (by simp only [List.getElem?_toArray, List.getElem?_cons_zero, List.getElem?_cons_succ]; rfl) (fun K hK => ?_) AllReadyH.nil
              go_simp
              go_at_call 30
              refine (cH2 _ hHeld).mono ?_
              rintro e x5 ⟨rfl, hG5⟩
              refine hK.out _ _ (hG5) ?_
              clear hHeld hK
              intro hHeld
              (try simp only [Act.put, List.setIfInBounds_toArray, List.set_cons_zero, List.set_cons_succ])
              refine wpAnyH_ready (rs := [7]) (by kernel_rfl) (by simp) ?_
              refine AllReadyH.cons (by simp only [List.getElem?_toArray, List.getElem?_cons_zero, List.getElem?_cons_succ]; rfl) (fun K hK => ?_) AllReadyH.nil
              go_simp
              go_at_call 31
              refine (cS1 _ hHeld).mono ?_
              rintro e x7 ⟨rfl, hG7⟩
              refine hK.out _ _ (hG7) ?_
              clear hHeld hK
              intro hHeld
              (try simp only [Act.put, List.setIfInBounds_toArray, List.set_cons_zero, List.set_cons_succ])
              refine wpAnyH_take (i := 8) (v := ?_) (by simp only [List.getElem?_toArray, List.getElem?_cons_zero, List.getElem?_cons_succ]; rfl) (by kernel_rfl) (by kernel_rfl) (by kernel_rfl) (by exact fun _ _ _ h => h) (Or.inl ⟨by rfl, ?_⟩) (by assumption) ?_; rotate_left; (focus (intro w hSw; go_simp; try with_reducible rfl)); simp only [Act.put, List.setIfInBounds_toArray, List.set_cons_zero, List.set_cons_succ]
              refine wpAnyH_take (i := 9) (v := ?_) (by simp only [List.getElem?_toArray, List.getElem?_cons_zero, List.getElem?_cons_succ]; rfl) (by kernel_rfl) (by kernel_rfl) (by kernel_rfl) (by exact fun _ _ _ h => h) (Or.inl ⟨by rfl, ?_⟩) (by assumption) ?_; rotate_left; (focus (intro w hSw; go_simp; try with_reducible rfl)); simp only [Act.put, List.setIfInBounds_toArray, List.set_cons_zero, List.set_cons_succ]
              refine wpAnyH_take (i := 10) (v := ?_) (by simp only [List.getElem?_toArray, List.getElem?_cons_zero, List.getElem?_cons_succ]; rfl) (by kernel_rfl) (by kernel_rfl) (by kernel_rfl) (by exact fun _ _ _ h => h) (Or.inl ⟨by rfl, ?_⟩) (by assumption) ?_; rotate_left; (focus (intro w hSw; go_simp; try with_reducible rfl)); simp only [Act.put, List.setIfInBounds_toArray, List.set_cons_zero, List.set_cons_succ]
              refine wpAnyH_done (by kernel_rfl) ?_ _
              clear hG2 hG5 hG7 cH1 cH2 cS1 fon
              have hB3 : B2 + 43 ≤ 1000000 := by omega
              have hor : b1 = true ∨ (b1 = false ∧ b2 = true) := by cases b1 with | true => exact Or.inl rfl | false => exact Or.inr ⟨rfl, hb2.2 (hV.resolve_left fun h => by cases hb1.2 h)⟩
              have cX := crashAt hHeld.disk hB3 hZ hHeld.kept hf.p cap2
              rcases hor with rfl | ⟨rfl, rfl⟩
              · have hTT : Tells V S := hb1.1 rfl
                clear hb1 hb2 hV
                go_wp2_with fail
                refine cX.mono ?_
                rintro e w8 ⟨r8, rfl, p8, hp8, d8, k8⟩
                clear cX
                obtain ⟨V8, t8, ⟨rfl, rfl⟩, hp⟩ := sf7 p8 hp8
                have s8 := hHeld.s.kept k8 (by simp; omega)
                have n8 := hHeld.n.kept k8 (by simp; omega)
                have kk8 : Kept [] w w8 := (hHeld.kept.mono (by simp)).trans k8 |>.fewer (by simp; omega)
                have cO := reopen2 d8 (by decide) (by omega) ht0 (by omega) hp
                clear hHeld hp8 sf7
                go_wp2_with fail
                refine cO.mono ?_
                rintro e w9 ⟨lk, rfl, hlk, W9, _, k9⟩
                clear cO d8 hp
                have s9 := s8.kept k9 (by simp; omega)
                have n9 := n8.kept k9 (by simp; omega)
                have kk9 : Kept [] w w9 := (kk8.mono (by simp)).trans k9 |>.fewer (by simp; omega)
                have hkz8 := kk8.size
                clear s8 n8 kk8 k8 k9
                have cH := holds_any W9 S hsl
                have hsc := s9.cells
                go_wp2_with (first | (refine wpList_load_stg (by first | rfl | simp [Region.wanted, yielded]) _ rfl _ rfl _ hsl hsc ?_) | fail)
                refine cH.mono ?_
                rintro e wa ⟨b, rfl, hbb, Wa, ka⟩
                obtain rfl : b = true := hbb.2 hTT
                have kka : Kept [] w wa := (kk9.mono (by simp)).trans ka |>.fewer (by simp; omega)
                have cS := seq_works Wa
                clear cH hbb hsc s9 n9 kk9 ka
                go_wp2_with fail
                refine cS.mono ?_
                rintro e wb ⟨rfl, Wb, kb⟩
                have kkb : Kept [] w wb := (kka.mono (by simp)).trans kb |>.fewer (by simp; omega)
                have hbel : Below w.heap.size w wb := kkb.to_below (Nat.le_refl _) (by simp)
                clear cS Wa Wb kka kb kkb
                go_wp2
                go_ret
                exact ⟨rfl, hbel⟩
              · have hTT : Tells V N := hb2.1 rfl
                clear hb1 hb2 hV
                go_wp2_with fail
                refine cX.mono ?_
                rintro e w8 ⟨r8, rfl, p8, hp8, d8, k8⟩
                clear cX
                obtain ⟨V8, t8, ⟨rfl, rfl⟩, hp⟩ := sf7 p8 hp8
                have s8 := hHeld.s.kept k8 (by simp; omega)
                have n8 := hHeld.n.kept k8 (by simp; omega)
                have kk8 : Kept [] w w8 := (hHeld.kept.mono (by simp)).trans k8 |>.fewer (by simp; omega)
                have cO := reopen2 d8 (by decide) (by omega) ht0 (by omega) hp
                clear hHeld hp8 sf7
                go_wp2_with fail
                refine cO.mono ?_
                rintro e w9 ⟨lk, rfl, hlk, W9, _, k9⟩
                clear cO d8 hp
                have s9 := s8.kept k9 (by simp; omega)
                have n9 := n8.kept k9 (by simp; omega)
                have kk9 : Kept [] w w9 := (kk8.mono (by simp)).trans k9 |>.fewer (by simp; omega)
                have hkz8 := kk8.size
                clear s8 n8 kk8 k8 k9
                have cH := holds_any W9 N hnl
                have hsc := n9.cells
                go_wp2_with (first | (refine wpList_load_stg (by first | rfl | simp [Region.wanted, yielded]) _ rfl _ rfl _ hnl hsc ?_) | fail)
                refine cH.mono ?_
                rintro e wa ⟨b, rfl, hbb, Wa, ka⟩
                obtain rfl : b = true := hbb.2 hTT
                have kka : Kept [] w wa := (kk9.mono (by simp)).trans ka |>.fewer (by simp; omega)
                have cS := seq_works Wa
                clear cH hbb hsc s9 n9 kk9 ka
                go_wp2_with fail
                refine cS.mono ?_
                rintro e wb ⟨rfl, Wb, kb⟩
                have kkb : Kept [] w wb := (kka.mono (by simp)).trans kb |>.fewer (by simp; omega)
                have hbel : Below w.heap.size w wb := kkb.to_below (Nat.le_refl _) (by simp)
                clear cS Wa Wb kka kb kkb
                go_wp2
                go_ret
                exact ⟨rfl, hbel⟩
            · clear hgo2 hA
              have cX := crashAt hm.disk (by have := hm.few; omega) hZ hm.kept hf.p cap2
              go_wp2_with fail
              refine cX.mono ?_
              rintro e w6 ⟨r6, rfl, p6, hp6, d6, k6⟩
              clear cX
              obtain ⟨V, t, ⟨hV, ht0, ht1⟩, hp⟩ := hm.safe p6 hp6
              have hB2 : B2 < 400000 := by have := hm.few; omega
              have s6 := hm.s.kept k6 (by simp; omega)
              have n6 := hm.n.kept k6 (by simp; omega)
              have kk6 : Kept [] w w6 := (hm.kept.mono (by simp)).trans k6 |>.fewer (by simp; omega)
              clear hm hp6
              have cO := reopen2 d6 (by decide) (by omega) ht0 (by omega) hp
              go_wp2_with fail
              refine cO.mono ?_
              rintro e w7 ⟨lh, rfl, hlh, W7, ⟨σ7, d7, sf7⟩, k7⟩
              clear cO d6 hp
              have hs6 := n6.lt
              have hkz := kk6.size
              have hF : FsZ w db pb mb lh sb nb S N V t σ7 (B2 + 43) w7 := ⟨s6.kept k7 (by simp; omega), n6.kept k7 (by simp; omega), W7, d7, (kk6.mono (by simp)).trans k7 |>.fewer (by simp; omega)⟩
              have hsl := s6.len
              have hnl := n6.len
              have fon : ∀ {X Y : World}, FsZ w db pb mb lh sb nb S N V t σ7 (B2 + 43) X → Works Y lh db pb mb 60 (B2 + 43) V t → Kept [lh] X Y → FsZ w db pb mb lh sb nb S N V t σ7 (B2 + 43) Y := fun h hw k => h.on hw k (by omega) (by omega) (by omega) (by omega) (by omega) (by omega)
              clear s6 n6 W7 d7 k6 k7 kk6
              obtain ⟨b1, b2, hb1, hb2⟩ : ∃ b1 b2 : Bool, (b1 = true ↔ Tells V S) ∧ (b2 = true ↔ Tells V N) := by classical exact ⟨decide (Tells V S), decide (Tells V N), decide_eq_true_iff, decide_eq_true_iff⟩
              have cH1 : ∀ X, FsZ w db pb mb lh sb nb S N V t σ7 (B2 + 43) X → Calls Try.prog 30 #[.pointer (some ⟨lh, 0, none⟩), stOf S] X fun e Y => e = .returned (.bool b1) ∧ FsZ w db pb mb lh sb nb S N V t σ7 (B2 + 43) Y := fun X hX => (holds_any hX.works S hsl).mono fun e Y ⟨b, he, hb, hw, hk⟩ => ⟨by rw [he, show b = b1 from Bool.eq_iff_iff.2 (hb.trans hb1.symm)], fon hX hw hk⟩
              have cH2 : ∀ X, FsZ w db pb mb lh sb nb S N V t σ7 (B2 + 43) X → Calls Try.prog 30 #[.pointer (some ⟨lh, 0, none⟩), stOf N] X fun e Y => e = .returned (.bool b2) ∧ FsZ w db pb mb lh sb nb S N V t σ7 (B2 + 43) Y := fun X hX => (holds_any hX.works N hnl).mono fun e Y ⟨b, he, hb, hw, hk⟩ => ⟨by rw [he, show b = b2 from Bool.eq_iff_iff.2 (hb.trans hb2.symm)], fon hX hw hk⟩
              have cS1 : ∀ X, FsZ w db pb mb lh sb nb S N V t σ7 (B2 + 43) X → Calls Try.prog 31 #[.pointer (some ⟨lh, 0, none⟩)] X fun e Y => e = .returned (.int .i64 t) ∧ FsZ w db pb mb lh sb nb S N V t σ7 (B2 + 43) Y := fun X hX => (seq_works hX.works).mono fun e Y ⟨he, hw, hk⟩ => ⟨he, fon hX hw hk⟩
              go_wp2_with fail
              refine wp_region_held_drew (S := FsZ w db pb mb lh sb nb S N V t σ7 (B2 + 43)) (by kernel_rfl) (hF.drew) ?_
              intro hHeld
              clear hF
              refine wpAnyH_take (i := 0) (v := ?_) (by simp only [List.getElem?_toArray, List.getElem?_cons_zero]; rfl) (by kernel_rfl) (by kernel_rfl) (by kernel_rfl) (by exact fun _ _ _ h => h) (Or.inl ⟨by rfl, ?_⟩) (by assumption) ?_; rotate_left; (focus (intro w hSw; go_simp; try with_reducible rfl)); simp only [Act.put, List.setIfInBounds_toArray, List.set_cons_zero, List.set_cons_succ]
              refine wpAnyH_take (i := 1) (v := stOf S) (by simp only [List.getElem?_toArray, List.getElem?_cons_zero, List.getElem?_cons_succ]; rfl) (by kernel_rfl) (by kernel_rfl) (by kernel_rfl) (by exact fun _ _ _ h => h) (yieldsIf_load_mid (by rfl) _ _ rfl sb 0 rfl (stCells S) _ (fun W hW => hW.s.cells) Try.underlying58 rfl (by rw [size_st, st_len, hsl])) (by assumption) ?_; simp only [Act.put, List.setIfInBounds_toArray, List.set_cons_zero, List.set_cons_succ]
              refine wpAnyH_take (i := 3) (v := ?_) (by simp only [List.getElem?_toArray, List.getElem?_cons_zero, List.getElem?_cons_succ]; rfl) (by kernel_rfl) (by kernel_rfl) (by kernel_rfl) (by exact fun _ _ _ h => h) (Or.inl ⟨by rfl, ?_⟩) (by assumption) ?_; rotate_left; (focus (intro w hSw; go_simp; try with_reducible rfl)); simp only [Act.put, List.setIfInBounds_toArray, List.set_cons_zero, List.set_cons_succ]
              refine wpAnyH_take (i := 4) (v := stOf N) (by simp only [List.getElem?_toArray, List.getElem?_cons_zero, List.getElem?_cons_succ]; rfl) (by kernel_rfl) (by kernel_rfl) (by kernel_rfl) (by exact fun _ _ _ h => h) (yieldsIf_load_mid (by rfl) _ _ rfl nb 0 rfl (stCells N) _ (fun W hW => hW.n.cells) Try.underlying58 rfl (by rw [size_st, st_len, hnl])) (by assumption) ?_; simp only [Act.put, List.setIfInBounds_toArray, List.set_cons_zero, List.set_cons_succ]
              refine wpAnyH_take (i := 6) (v := ?_) (by simp only [List.getElem?_toArray, List.getElem?_cons_zero, List.getElem?_cons_succ]; rfl) (by kernel_rfl) (by kernel_rfl) (by kernel_rfl) (by exact fun _ _ _ h => h) (Or.inl ⟨by rfl, ?_⟩) (by assumption) ?_; rotate_left; (focus (intro w hSw; go_simp; try with_reducible rfl)); simp only [Act.put, List.setIfInBounds_toArray, List.set_cons_zero, List.set_cons_succ]
              refine wpAnyH_ready (rs := [2]) (by kernel_rfl) (by simp) ?_
              refine AllReadyH.cons (by simp only [List.getElem?_toArray, List.getElem?_cons_zero, List.getElem?_cons_succ]; rfl) (fun K hK => ?_) AllReadyH.nil
              go_simp
              go_at_call 30
              refine (cH1 _ hHeld).mono ?_
              rintro e x2 ⟨rfl, hG2⟩
              refine hK.out _ _ (hG2) ?_
              clear hHeld hK
              intro hHeld
              (try simp only [Act.put, List.setIfInBounds_toArray, List.set_cons_zero, List.set_cons_succ])
              refine wpAnyH_ready (rs := [5]) (by kernel_rfl) (by simp) ?_
              refine AllReadyH.cons (by simp only [List.getElem?_toArray, List.getElem?_cons_zero, List.getElem?_cons_succ]; rfl) (fun K hK => ?_) AllReadyH.nil
              go_simp
              go_at_call 30
              refine (cH2 _ hHeld).mono ?_
              rintro e x5 ⟨rfl, hG5⟩
              refine hK.out _ _ (hG5) ?_
              clear hHeld hK
              intro hHeld
              (try simp only [Act.put, List.setIfInBounds_toArray, List.set_cons_zero, List.set_cons_succ])
              refine wpAnyH_ready (rs := [7]) (by kernel_rfl) (by simp) ?_
              refine AllReadyH.cons (by simp only [List.getElem?_toArray, List.getElem?_cons_zero, List.getElem?_cons_succ]; rfl) (fun K hK => ?_) AllReadyH.nil
              go_simp
              go_at_call 31
              refine (cS1 _ hHeld).mono ?_
              rintro e x7 ⟨rfl, hG7⟩
              refine hK.out _ _ (hG7) ?_
              clear hHeld hK
              intro hHeld
              (try simp only [Act.put, List.setIfInBounds_toArray, List.set_cons_zero, List.set_cons_succ])
              refine wpAnyH_take (i := 8) (v := ?_) (by simp only [List.getElem?_toArray, List.getElem?_cons_zero, List.getElem?_cons_succ]; rfl) (by kernel_rfl) (by kernel_rfl) (by kernel_rfl) (by exact fun _ _ _ h => h) (Or.inl ⟨by rfl, ?_⟩) (by assumption) ?_; rotate_left; (focus (intro w hSw; go_simp; try with_reducible rfl)); simp only [Act.put, List.setIfInBounds_toArray, List.set_cons_zero, List.set_cons_succ]
              refine wpAnyH_take (i := 9) (v := ?_) (by simp only [List.getElem?_toArray, List.getElem?_cons_zero, List.getElem?_cons_succ]; rfl) (by kernel_rfl) (by kernel_rfl) (by kernel_rfl) (by exact fun _ _ _ h => h) (Or.inl ⟨by rfl, ?_⟩) (by assumption) ?_; rotate_left; (focus (intro w hSw; go_simp; try with_reducible rfl)); simp only [Act.put, List.setIfInBounds_toArray, List.set_cons_zero, List.set_cons_succ]
              refine wpAnyH_take (i := 10) (v := ?_) (by simp only [List.getElem?_toArray, List.getElem?_cons_zero, List.getElem?_cons_succ]; rfl) (by kernel_rfl) (by kernel_rfl) (by kernel_rfl) (by exact fun _ _ _ h => h) (Or.inl ⟨by rfl, ?_⟩) (by assumption) ?_; rotate_left; (focus (intro w hSw; go_simp; try with_reducible rfl)); simp only [Act.put, List.setIfInBounds_toArray, List.set_cons_zero, List.set_cons_succ]
              refine wpAnyH_done (by kernel_rfl) ?_ _
              clear hG2 hG5 hG7 cH1 cH2 cS1 fon
              have hB3 : B2 + 43 ≤ 1000000 := by omega
              have hor : b1 = true ∨ (b1 = false ∧ b2 = true) := by cases b1 with | true => exact Or.inl rfl | false => exact Or.inr ⟨rfl, hb2.2 (hV.resolve_left fun h => by cases hb1.2 h)⟩
              have cX := crashAt hHeld.disk hB3 hZ hHeld.kept hf.p cap2
              rcases hor with rfl | ⟨rfl, rfl⟩
              · have hTT : Tells V S := hb1.1 rfl
                clear hb1 hb2 hV
                go_wp2_with fail
                refine cX.mono ?_
                rintro e w8 ⟨r8, rfl, p8, hp8, d8, k8⟩
                clear cX
                obtain ⟨V8, t8, ⟨rfl, rfl⟩, hp⟩ := sf7 p8 hp8
                have s8 := hHeld.s.kept k8 (by simp; omega)
                have n8 := hHeld.n.kept k8 (by simp; omega)
                have kk8 : Kept [] w w8 := (hHeld.kept.mono (by simp)).trans k8 |>.fewer (by simp; omega)
                have cO := reopen2 d8 (by decide) (by omega) ht0 (by omega) hp
                clear hHeld hp8 sf7
                go_wp2_with fail
                refine cO.mono ?_
                rintro e w9 ⟨lk, rfl, hlk, W9, _, k9⟩
                clear cO d8 hp
                have s9 := s8.kept k9 (by simp; omega)
                have n9 := n8.kept k9 (by simp; omega)
                have kk9 : Kept [] w w9 := (kk8.mono (by simp)).trans k9 |>.fewer (by simp; omega)
                have hkz8 := kk8.size
                clear s8 n8 kk8 k8 k9
                have cH := holds_any W9 S hsl
                have hsc := s9.cells
                go_wp2_with (first | (refine wpList_load_stg (by first | rfl | simp [Region.wanted, yielded]) _ rfl _ rfl _ hsl hsc ?_) | fail)
                refine cH.mono ?_
                rintro e wa ⟨b, rfl, hbb, Wa, ka⟩
                obtain rfl : b = true := hbb.2 hTT
                have kka : Kept [] w wa := (kk9.mono (by simp)).trans ka |>.fewer (by simp; omega)
                have cS := seq_works Wa
                clear cH hbb hsc s9 n9 kk9 ka
                go_wp2_with fail
                refine cS.mono ?_
                rintro e wb ⟨rfl, Wb, kb⟩
                have kkb : Kept [] w wb := (kka.mono (by simp)).trans kb |>.fewer (by simp; omega)
                have hbel : Below w.heap.size w wb := kkb.to_below (Nat.le_refl _) (by simp)
                clear cS Wa Wb kka kb kkb
                go_wp2
                go_ret
                exact ⟨rfl, hbel⟩
              · have hTT : Tells V N := hb2.1 rfl
                clear hb1 hb2 hV
                go_wp2_with fail
                refine cX.mono ?_
                rintro e w8 ⟨r8, rfl, p8, hp8, d8, k8⟩
                clear cX
                obtain ⟨V8, t8, ⟨rfl, rfl⟩, hp⟩ := sf7 p8 hp8
                have s8 := hHeld.s.kept k8 (by simp; omega)
                have n8 := hHeld.n.kept k8 (by simp; omega)
                have kk8 : Kept [] w w8 := (hHeld.kept.mono (by simp)).trans k8 |>.fewer (by simp; omega)
                have cO := reopen2 d8 (by decide) (by omega) ht0 (by omega) hp
                clear hHeld hp8 sf7
                go_wp2_with fail
                refine cO.mono ?_
                rintro e w9 ⟨lk, rfl, hlk, W9, _, k9⟩
                clear cO d8 hp
                have s9 := s8.kept k9 (by simp; omega)
                have n9 := n8.kept k9 (by simp; omega)
                have kk9 : Kept [] w w9 := (kk8.mono (by simp)).trans k9 |>.fewer (by simp; omega)
                have hkz8 := kk8.size
                clear s8 n8 kk8 k8 k9
                have cH := holds_any W9 N hnl
                have hsc := n9.cells
                go_wp2_with (first | (refine wpList_load_stg (by first | rfl | simp [Region.wanted, yielded]) _ rfl _ rfl _ hnl hsc ?_) | fail)
                refine cH.mono ?_
                rintro e wa ⟨b, rfl, hbb, Wa, ka⟩
                obtain rfl : b = true := hbb.2 hTT
                have kka : Kept [] w wa := (kk9.mono (by simp)).trans ka |>.fewer (by simp; omega)
                have cS := seq_works Wa
                clear cH hbb hsc s9 n9 kk9 ka
                go_wp2_with fail
                refine cS.mono ?_
                rintro e wb ⟨rfl, Wb, kb⟩
                have kkb : Kept [] w wb := (kka.mono (by simp)).trans kb |>.fewer (by simp; omega)
                have hbel : Below w.heap.size w wb := kkb.to_below (Nat.le_refl _) (by simp)
                clear cS Wa Wb kka kb kkb
                go_wp2
                go_ret
                exact ⟨rfl, hbel⟩
      | false =>
        rw [hdd] at cX
        obtain ⟨x, rfl, _, hgr⟩ : ∃ x, a0 = some x ∧ len0 ≤ maxLen ∧ ∀ i, i < len0 → GroupAt w x i := hG.resolve_left (by omega)
        obtain ⟨na, fa, ra, nl, nc, fl, fc, rl, rc, Ns, Fs, R, c0, c1, c2, hN, hF, hR, hn, hf', hr⟩ := hgr q.toNat (by omega)
        go_wp2_with fail
        refine cX.mono ?_
        rintro e wx ⟨rfl, kx⟩
        have hl := hl.on kx
        have kw := hl.kept
        rw [addOff x (q.toNat * 3) 0] at c1
        rw [addOff x (q.toNat * 3) 1] at c2
        have c0 := (World.cell?_of_block (kw.block _ (World.block_lt_of_cell? _ _ c0) (by simp))).trans c0
        have c1 := (World.cell?_of_block (kw.block _ (World.block_lt_of_cell? _ _ c1) (by simp))).trans c1
        have c2 := (World.cell?_of_block (kw.block _ (World.block_lt_of_cell? _ _ c2) (by simp))).trans c2
        unfold maxLen at hn hf' hr
        clear hgr hG cX kx
        by_cases h128 : 128 < rl
        · have h128' : (128 : Int) < (rl : Int) := by omega
          have hl := hl.next
          clear hN hF hR hZ hA
          go_wp2_with fail
          go_roundw
          case rel => exact ⟨q + 1, S, N, σ, B, by omega, by omega, rfl, hl⟩
          case measure => simp [Go.RowKit.intOf]; omega
        · have h128' : ¬ (128 : Int) < (rl : Int) := by omega
          have cP := puts_any wx na fa ra nl nc fl fc rl rc Ns Fs R (hN.grown kw) (hF.grown kw) (hR.grown kw) (by omega) (by omega)
          have hsz := kw.size
          clear hN hF hR hZ hA kw
          go_wp2_with fail
          refine cP.mono ?_
          rintro e w3 ⟨v, rfl, ps, hP, hpl, k3⟩
          clear cP c0 c1 c2
          have hsbl := hl.s.lt
          have hnbl := hl.n.lt
          have hl := hl.on k3
          have hsl := hl.s.len
          have hsc := hl.s.cells
          by_cases e0 : ps = []
          · subst e0
            obtain ⟨A, cap, rfl, cD⟩ : ∃ A cap, v = .slice A 0 cap ∧ Calls Try.prog 28 #[stOf S, v] w3 fun e w' => e = .returned (stOf S) ∧ Kept [] w3 w' := by
              rcases hP.done with ⟨_, rfl⟩ | ⟨pk, cap, rfl, hpk, hpa, hcap⟩
              · exact ⟨none, 0, rfl, done_none w3 S hsl⟩
              · exact ⟨_, cap, rfl, done_any w3 S hsl pk cap [] hpa (by simp) (by simp) (by simp)⟩
            clear hP k3
            go_wp2_with (first | (refine wpList_load_st rfl _ rfl _ rfl _ hsl hsc ?_) | fail)
            refine cD.mono ?_
            rintro e w4 ⟨rfl, k4⟩
            have hl := hl.on k4
            obtain ⟨W5, hW5⟩ : ∃ W5, w4.setCells nb 0 (stCells S) = W5 := ⟨_, rfl⟩
            have hl5 := hl.put_n hf (by omega) hdd hsl hW5
            have hnw := hl.n.writes
            have cC := Commit_none (w := W5) (lb := lb) cap A
            clear cD hsc k4 hl
            go_wp2_with (first | (refine wpList_store_st rfl _ _ rfl _ rfl _ rfl hsl hnw hW5 ?_) | fail)
            refine cC.mono ?_
            rintro e w6 ⟨rfl, k6⟩
            have hl6 := hl5.on k6
            clear cC hnw hW5 hl5 k6
            obtain ⟨W7, hW7⟩ : ∃ W7, w6.setCells sb 0 (stCells S) = W7 := ⟨_, rfl⟩
            have hl7 := (hl6.put_s hf hW7).next
            have hnc := hl6.n.cells
            have hsw := hl6.s.writes
            clear hl6
            go_wp2_with (first | (refine wpList_load_st rfl _ rfl _ rfl _ hsl hnc ?_) | (refine wpList_store_st rfl _ _ rfl _ rfl _ rfl hsl hsw hW7 ?_) | fail)
            go_roundw
            case rel => exact ⟨q + 1, S, S, σ, B, by omega, by omega, rfl, hl7⟩
            case measure => simp [Go.RowKit.intOf]; omega
          · have hg : GoodPuts 60 ps := ⟨by omega, by cases ps with | nil => exact absurd rfl e0 | cons a r => simp, fun x hx => ⟨(hP.bytes x hx).2.2.2.2.1, (hP.bytes x hx).2.2.2.2.2.1⟩, hP.apart⟩
            obtain ⟨pk, cap, rfl, hpk, hpa, hcap⟩ : ∃ pk cap, v = .slice (some ⟨pk, 0, none⟩) ps.length cap ∧ wx.heap.size ≤ pk ∧ PutsAt w3 pk ps ∧ ps.length ≤ cap := hP.done.resolve_left fun h => e0 h.1
            have hbase : ∀ x ∈ ps, wx.heap.size ≤ x.b := fun x hx => (hP.bytes x hx).2.2.2.1
            have hrng : ∀ x ∈ ps, 42 ≤ x.N ∧ x.N < 60 := fun x hx => ⟨(hP.bytes x hx).2.2.2.2.1, (hP.bytes x hx).2.2.2.2.2.1⟩
            have hzo : ∀ x ∈ ps, x.o = 0 := fun x hx => (hP.bytes x hx).2.2.2.2.2.2
            have hsec : ∀ x ∈ ps, Sec x.bytes ∧ 42 ≤ x.N ∧ x.N < 60 := fun x hx => ⟨(hP.bytes x hx).2.1, hrng x hx⟩
            have cD := done_any w3 S hsl pk cap ps hpa hrng (by omega) hzo
            have htl : ∀ U, Tells U S → Tells (afterPuts U ps) (doneOf S ps) := fun U hT => by
              have := tells_puts hsec ps.length (Nat.le_refl _) U S hsl hT
              rwa [List.take_length] at this
            have hslD : (doneOf S ps).length = 18 := by rw [doneOf_len]; exact hsl
            generalize doneOf S ps = S' at cD htl hslD
            obtain ⟨m, hml⟩ : ∃ m, ps.length = m := ⟨_, rfl⟩
            rw [hml] at cD hcap
            rw [hml]
            obtain ⟨f1, f2, f3, f4, f5, f6, f7, f8, f9⟩ := id hf
            clear hP k3 hzo hrng hsec
            go_wp2_with (first | (refine wpList_load_st rfl _ rfl _ rfl _ hsl hsc ?_) | fail)
            refine cD.mono ?_
            rintro e w4 ⟨rfl, k4⟩
            have hpa4 := hpa.kept k4 (by simp) (by simp)
            have hl := hl.on k4
            clear cD hsc k4 hpa
            obtain ⟨W5, hW5⟩ : ∃ W5, w4.setCells nb 0 (stCells S') = W5 := ⟨_, rfl⟩
            have hl5 := hl.put_n hf (by omega) hdd hslD hW5
            have hnw := hl.n.writes
            have k5 : Kept [nb] w4 W5 := by rw [← hW5]; exact (st_stored hl.n hslD).2
            have hpa5 := hpa4.kept k5 (by simp; omega) (fun x hx => by have := hbase x hx; simp; omega)
            obtain ⟨s1, U, sq, hLg, hbf, hI, hs0, hs1, hT⟩ := hl5.live hdd
            have hIo : IdleOn σ sq := hI.on (by simp [Dsk.newest, hbf]) hs0 (by omega)
            have cC := Commit_any hLg hdd (by decide) (by have := hl5.few; omega) pk cap ps hpa5 (by omega) (by simp; omega) (fun x hx => by have := hbase x hx; simp; omega) hg hIo
            obtain ⟨cs1, cs2, cs3, _⟩ := commit_safe hbf hI hg (by decide) hs0 (by omega)
            obtain ⟨⟨σ6, ok⟩, hr⟩ : ∃ x, σ.run (commitOps sq ps) = x := ⟨_, rfl⟩
            rw [hr, hml] at cC
            have hBq := hl5.few
            have sS := hl5.s
            have sN := hl5.n
            have kS := hl5.kept
            have htU := htl U hT
            clear hl hl5 k5 hpa4 hpa5 hbase hg hIo htl hbf hI hLg e0
            go_wp2_with (first | (refine wpList_store_st rfl _ _ rfl _ rfl _ rfl hslD hnw hW5 ?_) | fail)
            refine cC.mono ?_
            rintro e w6 ⟨rfl, ⟨s6, L6⟩, k6⟩
            have sS6 := sS.kept k6 (by simp; omega)
            have sN6 := sN.kept k6 (by simp; omega)
            have kS6 : Kept [] w w6 := (kS.mono (by simp)).trans k6 |>.fewer (by simp; omega)
            clear cC hnw hW5 sS sN kS k6
            cases ok with
            | false =>
              have hsf : SafeP 60 σ6 (Out S S') := (safe_dies _ cs1 hr).more fun V t h => by
                rcases h with ⟨a, b⟩ | ⟨a, b⟩
                · subst a; subst b; exact ⟨Or.inl hT, by omega, by omega⟩
                · subst a; subst b; exact ⟨Or.inr htU, by omega, by omega⟩
              have hl7 : L1 w db pb mb lb sb nb w6 (q + 1) S S' σ6 (B + 90) := ⟨L6.disk, by omega, sS6, sN6, hsf, kS6, fun h => by rw [run_dead _ hr] at h; cases h⟩
              clear hsf L6 sS6 sN6 kS6 cs1 cs2 cs3 hr hT htU
              simp only [codeOf]
              go_wp2_with fail
              go_roundw
              case rel => exact ⟨q + 1, S, S', σ6, B + 90, by omega, by omega, rfl, hl7⟩
              case measure => simp [Go.RowKit.intOf]; omega
            | true =>
              obtain ⟨W7, hW7⟩ : ∃ W7, w6.setCells sb 0 (stCells S') = W7 := ⟨_, rfl⟩
              obtain ⟨s7, k7⟩ := st_stored sS6 hslD
              rw [hW7] at s7 k7
              have hnc := sN6.cells
              have hsw := sS6.writes
              rw [← run_all _ hr] at cs2 cs3
              have hl7 : L1 w db pb mb lb sb nb W7 (q + 1) S' S' σ6 (B + 90) := ⟨L6.disk.kept k7 (by simp; omega) (by simp; omega) (by simp; omega), by omega, s7, sN6.kept k7 (by simp; omega), live_out cs2 cs3 (by omega) (by omega) htU, (kS6.mono (by simp)).trans k7 |>.fewer (by simp; omega), fun _ => ⟨_, _, sq + 1, L6.kept k7 (by simp; omega) (by simp; omega) (by simp; omega) (by simp; omega), cs2, cs3, by omega, by omega, htU⟩⟩
              clear L6 sS6 sN6 kS6 cs1 cs2 cs3 hr hT htU s7 k7
              simp only [codeOf]
              go_wp2_with (first | (refine wpList_load_st rfl _ rfl _ rfl _ hslD hnc ?_) | (refine wpList_store_st rfl _ _ rfl _ rfl _ rfl hslD hsw hW7 ?_) | fail)
              go_roundw
              case rel => exact ⟨q + 1, S', S', σ6, B + 90, by omega, by omega, rfl, hl7⟩
              case measure => simp [Go.RowKit.intOf]; omega
    · clear hG
      by_cases g1 : q < len0
      · have g2 : ¬ q < 25 := fun h => hgo ⟨g1, h⟩
        clear hgo
        go_wp2_with fail
        have hL2 : L2 w db pb mb sb nb S N _ 0 σ B := ⟨hl.disk, by have := hl.few; omega, hl.s, hl.n, hl.safe, hl.kept⟩
        clear hl
        go_loopw [17] (fun t17 wr => ∃ (q2 : Int) (σ2 : Dsk) (B2 : Nat), 0 ≤ q2 ∧ q2 ≤ 4 ∧ t17 = .int .i64 q2 ∧ L2 w db pb mb sb nb S N wr q2 σ2 B2) (fun t17 _ => 4 - (Go.RowKit.intOf t17).toNat)
        case atStart => exact ⟨0, σ, B, by omega, by omega, rfl, hL2⟩
        case round =>
          obtain ⟨q2, σ2, B2, h20, h21, rfl, hm⟩ := hrel
          clear hL2
          obtain ⟨f1, f2, f3, f4, f5, f6, f7, f8, f9⟩ := id hf
          by_cases hgo2 : q2 < len3 ∧ q2 < 4
          · obtain ⟨e1, e2⟩ := hgo2
            have cX := crashAt hm.disk (by have := hm.few; omega) hZ hm.kept hf.p cap2
            go_wp2_with fail
            refine cX.mono ?_
            rintro e w6 ⟨r6, rfl, p6, hp6, d6, k6⟩
            clear cX
            obtain ⟨V, t, ⟨hV, ht0, ht1⟩, hp⟩ := hm.safe p6 hp6
            have hB2 := hm.few
            have s6 := hm.s.kept k6 (by simp; omega)
            have n6 := hm.n.kept k6 (by simp; omega)
            have kk6 : Kept [] w w6 := (hm.kept.mono (by simp)).trans k6 |>.fewer (by simp; omega)
            clear hm hp6 k6
            obtain ⟨y, rfl, hy⟩ := (hA.grown kk6).2 (by omega)
            have cy := hy q2.toNat (by omega)
            obtain ⟨z, hz⟩ : ∃ z, ag.getD q2.toNat 0 = z := ⟨_, rfl⟩
            rw [hz] at cy
            clear hy hz
            have cW := withinAt z 12 (by decide) (by decide) w6
            go_wp2_with fail
            refine cW.mono ?_
            rintro e w7 ⟨rfl, k7⟩
            clear cW cy
            have hz0 := Int.emod_nonneg z (show (12 : Int) ≠ 0 by decide)
            have hz1 := Int.emod_lt_of_pos z (show (0 : Int) < 12 by decide)
            obtain ⟨st, hst⟩ : ∃ st, 1 + z % 12 = st := ⟨_, rfl⟩
            have hst0 : 0 ≤ st := by omega
            have hst1 : st < 1000000 := by omega
            have cS := stopAt (d6.kept k7 (by simp) (by simp) (by simp)) st hst0 hst1
            go_wp2_with fail
            refine cS.mono ?_
            rintro e w8 ⟨rfl, d8, k8⟩
            clear cS hst hz0 hz1 d6
            have kk7 := k7.trans (Kept.refl [] w7)
            have s8 := (s6.kept k7 (by simp)).kept k8 (by simp; omega)
            have n8 := (n6.kept k7 (by simp)).kept k8 (by simp; omega)
            have kk8 : Kept [] w w8 := ((kk6.trans k7).mono (by simp)).trans k8 |>.fewer (by simp; omega)
            have cO := open_cut d8 (by decide) (by omega) ht0 (by omega) hp
            clear kk7 s6 n6 kk6 k7 k8 d8 hp
            go_wp2_with fail
            refine cO.mono ?_
            rintro e w9 ⟨⟨xx, cc, rfl⟩, ⟨σ9, d9, sf9⟩, k9⟩
            clear cO
            have hL3 : L2 w db pb mb sb nb S N w9 (q2 + 1) σ9 (B2 + 43) := ⟨d9, by omega, s8.kept k9 (by simp; omega), n8.kept k9 (by simp; omega), sf9.more fun V' t' ⟨a, b⟩ => by subst a; subst b; exact ⟨hV, ht0, ht1⟩, (kk8.mono (by simp)).trans k9 |>.fewer (by simp; omega)⟩
            clear d9 sf9 s8 n8 kk8 k9 hV
            go_wp2_with fail
            go_roundw
            case rel => exact ⟨q2 + 1, σ9, B2 + 43, by omega, by omega, rfl, hL3⟩
            case measure => simp [Go.RowKit.intOf]; omega
          · by_cases e1 : q2 < len3
            · have e2 : ¬ q2 < 4 := fun h => hgo2 ⟨e1, h⟩
              clear hgo2 hA
              have cX := crashAt hm.disk (by have := hm.few; omega) hZ hm.kept hf.p cap2
              go_wp2_with fail
              refine cX.mono ?_
              rintro e w6 ⟨r6, rfl, p6, hp6, d6, k6⟩
              clear cX
              obtain ⟨V, t, ⟨hV, ht0, ht1⟩, hp⟩ := hm.safe p6 hp6
              have hB2 : B2 < 400000 := by have := hm.few; omega
              have s6 := hm.s.kept k6 (by simp; omega)
              have n6 := hm.n.kept k6 (by simp; omega)
              have kk6 : Kept [] w w6 := (hm.kept.mono (by simp)).trans k6 |>.fewer (by simp; omega)
              clear hm hp6
              have cO := reopen2 d6 (by decide) (by omega) ht0 (by omega) hp
              go_wp2_with fail
              refine cO.mono ?_
              rintro e w7 ⟨lh, rfl, hlh, W7, ⟨σ7, d7, sf7⟩, k7⟩
              clear cO d6 hp
              have hs6 := n6.lt
              have hkz := kk6.size
              have hF : FsZ w db pb mb lh sb nb S N V t σ7 (B2 + 43) w7 := ⟨s6.kept k7 (by simp; omega), n6.kept k7 (by simp; omega), W7, d7, (kk6.mono (by simp)).trans k7 |>.fewer (by simp; omega)⟩
              have hsl := s6.len
              have hnl := n6.len
              have fon : ∀ {X Y : World}, FsZ w db pb mb lh sb nb S N V t σ7 (B2 + 43) X → Works Y lh db pb mb 60 (B2 + 43) V t → Kept [lh] X Y → FsZ w db pb mb lh sb nb S N V t σ7 (B2 + 43) Y := fun h hw k => h.on hw k (by omega) (by omega) (by omega) (by omega) (by omega) (by omega)
              clear s6 n6 W7 d7 k6 k7 kk6
              obtain ⟨b1, b2, hb1, hb2⟩ : ∃ b1 b2 : Bool, (b1 = true ↔ Tells V S) ∧ (b2 = true ↔ Tells V N) := by classical exact ⟨decide (Tells V S), decide (Tells V N), decide_eq_true_iff, decide_eq_true_iff⟩
              have cH1 : ∀ X, FsZ w db pb mb lh sb nb S N V t σ7 (B2 + 43) X → Calls Try.prog 30 #[.pointer (some ⟨lh, 0, none⟩), stOf S] X fun e Y => e = .returned (.bool b1) ∧ FsZ w db pb mb lh sb nb S N V t σ7 (B2 + 43) Y := fun X hX => (holds_any hX.works S hsl).mono fun e Y ⟨b, he, hb, hw, hk⟩ => ⟨by rw [he, show b = b1 from Bool.eq_iff_iff.2 (hb.trans hb1.symm)], fon hX hw hk⟩
              have cH2 : ∀ X, FsZ w db pb mb lh sb nb S N V t σ7 (B2 + 43) X → Calls Try.prog 30 #[.pointer (some ⟨lh, 0, none⟩), stOf N] X fun e Y => e = .returned (.bool b2) ∧ FsZ w db pb mb lh sb nb S N V t σ7 (B2 + 43) Y := fun X hX => (holds_any hX.works N hnl).mono fun e Y ⟨b, he, hb, hw, hk⟩ => ⟨by rw [he, show b = b2 from Bool.eq_iff_iff.2 (hb.trans hb2.symm)], fon hX hw hk⟩
              have cS1 : ∀ X, FsZ w db pb mb lh sb nb S N V t σ7 (B2 + 43) X → Calls Try.prog 31 #[.pointer (some ⟨lh, 0, none⟩)] X fun e Y => e = .returned (.int .i64 t) ∧ FsZ w db pb mb lh sb nb S N V t σ7 (B2 + 43) Y := fun X hX => (seq_works hX.works).mono fun e Y ⟨he, hw, hk⟩ => ⟨he, fon hX hw hk⟩
              go_wp2_with fail
              refine wp_region_held_drew (S := FsZ w db pb mb lh sb nb S N V t σ7 (B2 + 43)) (by kernel_rfl) (hF.drew) ?_
              intro hHeld
              clear hF
              refine wpAnyH_take (i := 0) (v := ?_) (by simp only [List.getElem?_toArray, List.getElem?_cons_zero]; rfl) (by kernel_rfl) (by kernel_rfl) (by kernel_rfl) (by exact fun _ _ _ h => h) (Or.inl ⟨by rfl, ?_⟩) (by assumption) ?_; rotate_left; (focus (intro w hSw; go_simp; try with_reducible rfl)); simp only [Act.put, List.setIfInBounds_toArray, List.set_cons_zero, List.set_cons_succ]
              refine wpAnyH_take (i := 1) (v := stOf S) (by simp only [List.getElem?_toArray, List.getElem?_cons_zero, List.getElem?_cons_succ]; rfl) (by kernel_rfl) (by kernel_rfl) (by kernel_rfl) (by exact fun _ _ _ h => h) (yieldsIf_load_mid (by rfl) _ _ rfl sb 0 rfl (stCells S) _ (fun W hW => hW.s.cells) Try.underlying58 rfl (by rw [size_st, st_len, hsl])) (by assumption) ?_; simp only [Act.put, List.setIfInBounds_toArray, List.set_cons_zero, List.set_cons_succ]
              refine wpAnyH_take (i := 3) (v := ?_) (by simp only [List.getElem?_toArray, List.getElem?_cons_zero, List.getElem?_cons_succ]; rfl) (by kernel_rfl) (by kernel_rfl) (by kernel_rfl) (by exact fun _ _ _ h => h) (Or.inl ⟨by rfl, ?_⟩) (by assumption) ?_; rotate_left; (focus (intro w hSw; go_simp; try with_reducible rfl)); simp only [Act.put, List.setIfInBounds_toArray, List.set_cons_zero, List.set_cons_succ]
              refine wpAnyH_take (i := 4) (v := stOf N) (by simp only [List.getElem?_toArray, List.getElem?_cons_zero, List.getElem?_cons_succ]; rfl) (by kernel_rfl) (by kernel_rfl) (by kernel_rfl) (by exact fun _ _ _ h => h) (yieldsIf_load_mid (by rfl) _ _ rfl nb 0 rfl (stCells N) _ (fun W hW => hW.n.cells) Try.underlying58 rfl (by rw [size_st, st_len, hnl])) (by assumption) ?_; simp only [Act.put, List.setIfInBounds_toArray, List.set_cons_zero, List.set_cons_succ]
              refine wpAnyH_take (i := 6) (v := ?_) (by simp only [List.getElem?_toArray, List.getElem?_cons_zero, List.getElem?_cons_succ]; rfl) (by kernel_rfl) (by kernel_rfl) (by kernel_rfl) (by exact fun _ _ _ h => h) (Or.inl ⟨by rfl, ?_⟩) (by assumption) ?_; rotate_left; (focus (intro w hSw; go_simp; try with_reducible rfl)); simp only [Act.put, List.setIfInBounds_toArray, List.set_cons_zero, List.set_cons_succ]
              refine wpAnyH_ready (rs := [2]) (by kernel_rfl) (by simp) ?_
              refine AllReadyH.cons (by simp only [List.getElem?_toArray, List.getElem?_cons_zero, List.getElem?_cons_succ]; rfl) (fun K hK => ?_) AllReadyH.nil
              go_simp
              go_at_call 30
              refine (cH1 _ hHeld).mono ?_
              rintro e x2 ⟨rfl, hG2⟩
              refine hK.out _ _ (hG2) ?_
              clear hHeld hK
              intro hHeld
              (try simp only [Act.put, List.setIfInBounds_toArray, List.set_cons_zero, List.set_cons_succ])
              refine wpAnyH_ready (rs := [5]) (by kernel_rfl) (by simp) ?_
              refine AllReadyH.cons (by simp only [List.getElem?_toArray, List.getElem?_cons_zero, List.getElem?_cons_succ]; rfl) (fun K hK => ?_) AllReadyH.nil
              go_simp
              go_at_call 30
              refine (cH2 _ hHeld).mono ?_
              rintro e x5 ⟨rfl, hG5⟩
              refine hK.out _ _ (hG5) ?_
              clear hHeld hK
              intro hHeld
              (try simp only [Act.put, List.setIfInBounds_toArray, List.set_cons_zero, List.set_cons_succ])
              refine wpAnyH_ready (rs := [7]) (by kernel_rfl) (by simp) ?_
              refine AllReadyH.cons (by simp only [List.getElem?_toArray, List.getElem?_cons_zero, List.getElem?_cons_succ]; rfl) (fun K hK => ?_) AllReadyH.nil
              go_simp
              go_at_call 31
              refine (cS1 _ hHeld).mono ?_
              rintro e x7 ⟨rfl, hG7⟩
              refine hK.out _ _ (hG7) ?_
              clear hHeld hK
              intro hHeld
              (try simp only [Act.put, List.setIfInBounds_toArray, List.set_cons_zero, List.set_cons_succ])
              refine wpAnyH_take (i := 8) (v := ?_) (by simp only [List.getElem?_toArray, List.getElem?_cons_zero, List.getElem?_cons_succ]; rfl) (by kernel_rfl) (by kernel_rfl) (by kernel_rfl) (by exact fun _ _ _ h => h) (Or.inl ⟨by rfl, ?_⟩) (by assumption) ?_; rotate_left; (focus (intro w hSw; go_simp; try with_reducible rfl)); simp only [Act.put, List.setIfInBounds_toArray, List.set_cons_zero, List.set_cons_succ]
              refine wpAnyH_take (i := 9) (v := ?_) (by simp only [List.getElem?_toArray, List.getElem?_cons_zero, List.getElem?_cons_succ]; rfl) (by kernel_rfl) (by kernel_rfl) (by kernel_rfl) (by exact fun _ _ _ h => h) (Or.inl ⟨by rfl, ?_⟩) (by assumption) ?_; rotate_left; (focus (intro w hSw; go_simp; try with_reducible rfl)); simp only [Act.put, List.setIfInBounds_toArray, List.set_cons_zero, List.set_cons_succ]
              refine wpAnyH_take (i := 10) (v := ?_) (by simp only [List.getElem?_toArray, List.getElem?_cons_zero, List.getElem?_cons_succ]; rfl) (by kernel_rfl) (by kernel_rfl) (by kernel_rfl) (by exact fun _ _ _ h => h) (Or.inl ⟨by rfl, ?_⟩) (by assumption) ?_; rotate_left; (focus (intro w hSw; go_simp; try with_reducible rfl)); simp only [Act.put, List.setIfInBounds_toArray, List.set_cons_zero, List.set_cons_succ]
              refine wpAnyH_done (by kernel_rfl) ?_ _
              clear hG2 hG5 hG7 cH1 cH2 cS1 fon
              have hB3 : B2 + 43 ≤ 1000000 := by omega
              have hor : b1 = true ∨ (b1 = false ∧ b2 = true) := by cases b1 with | true => exact Or.inl rfl | false => exact Or.inr ⟨rfl, hb2.2 (hV.resolve_left fun h => by cases hb1.2 h)⟩
              have cX := crashAt hHeld.disk hB3 hZ hHeld.kept hf.p cap2
              rcases hor with rfl | ⟨rfl, rfl⟩
              · have hTT : Tells V S := hb1.1 rfl
                clear hb1 hb2 hV
                go_wp2_with fail
                refine cX.mono ?_
                rintro e w8 ⟨r8, rfl, p8, hp8, d8, k8⟩
                clear cX
                obtain ⟨V8, t8, ⟨rfl, rfl⟩, hp⟩ := sf7 p8 hp8
                have s8 := hHeld.s.kept k8 (by simp; omega)
                have n8 := hHeld.n.kept k8 (by simp; omega)
                have kk8 : Kept [] w w8 := (hHeld.kept.mono (by simp)).trans k8 |>.fewer (by simp; omega)
                have cO := reopen2 d8 (by decide) (by omega) ht0 (by omega) hp
                clear hHeld hp8 sf7
                go_wp2_with fail
                refine cO.mono ?_
                rintro e w9 ⟨lk, rfl, hlk, W9, _, k9⟩
                clear cO d8 hp
                have s9 := s8.kept k9 (by simp; omega)
                have n9 := n8.kept k9 (by simp; omega)
                have kk9 : Kept [] w w9 := (kk8.mono (by simp)).trans k9 |>.fewer (by simp; omega)
                have hkz8 := kk8.size
                clear s8 n8 kk8 k8 k9
                have cH := holds_any W9 S hsl
                have hsc := s9.cells
                go_wp2_with (first | (refine wpList_load_stg (by first | rfl | simp [Region.wanted, yielded]) _ rfl _ rfl _ hsl hsc ?_) | fail)
                refine cH.mono ?_
                rintro e wa ⟨b, rfl, hbb, Wa, ka⟩
                obtain rfl : b = true := hbb.2 hTT
                have kka : Kept [] w wa := (kk9.mono (by simp)).trans ka |>.fewer (by simp; omega)
                have cS := seq_works Wa
                clear cH hbb hsc s9 n9 kk9 ka
                go_wp2_with fail
                refine cS.mono ?_
                rintro e wb ⟨rfl, Wb, kb⟩
                have kkb : Kept [] w wb := (kka.mono (by simp)).trans kb |>.fewer (by simp; omega)
                have hbel : Below w.heap.size w wb := kkb.to_below (Nat.le_refl _) (by simp)
                clear cS Wa Wb kka kb kkb
                go_wp2
                go_ret
                exact ⟨rfl, hbel⟩
              · have hTT : Tells V N := hb2.1 rfl
                clear hb1 hb2 hV
                go_wp2_with fail
                refine cX.mono ?_
                rintro e w8 ⟨r8, rfl, p8, hp8, d8, k8⟩
                clear cX
                obtain ⟨V8, t8, ⟨rfl, rfl⟩, hp⟩ := sf7 p8 hp8
                have s8 := hHeld.s.kept k8 (by simp; omega)
                have n8 := hHeld.n.kept k8 (by simp; omega)
                have kk8 : Kept [] w w8 := (hHeld.kept.mono (by simp)).trans k8 |>.fewer (by simp; omega)
                have cO := reopen2 d8 (by decide) (by omega) ht0 (by omega) hp
                clear hHeld hp8 sf7
                go_wp2_with fail
                refine cO.mono ?_
                rintro e w9 ⟨lk, rfl, hlk, W9, _, k9⟩
                clear cO d8 hp
                have s9 := s8.kept k9 (by simp; omega)
                have n9 := n8.kept k9 (by simp; omega)
                have kk9 : Kept [] w w9 := (kk8.mono (by simp)).trans k9 |>.fewer (by simp; omega)
                have hkz8 := kk8.size
                clear s8 n8 kk8 k8 k9
                have cH := holds_any W9 N hnl
                have hsc := n9.cells
                go_wp2_with (first | (refine wpList_load_stg (by first | rfl | simp [Region.wanted, yielded]) _ rfl _ rfl _ hnl hsc ?_) | fail)
                refine cH.mono ?_
                rintro e wa ⟨b, rfl, hbb, Wa, ka⟩
                obtain rfl : b = true := hbb.2 hTT
                have kka : Kept [] w wa := (kk9.mono (by simp)).trans ka |>.fewer (by simp; omega)
                have cS := seq_works Wa
                clear cH hbb hsc s9 n9 kk9 ka
                go_wp2_with fail
                refine cS.mono ?_
                rintro e wb ⟨rfl, Wb, kb⟩
                have kkb : Kept [] w wb := (kka.mono (by simp)).trans kb |>.fewer (by simp; omega)
                have hbel : Below w.heap.size w wb := kkb.to_below (Nat.le_refl _) (by simp)
                clear cS Wa Wb kka kb kkb
                go_wp2
                go_ret
                exact ⟨rfl, hbel⟩
            · clear hgo2 hA
              have cX := crashAt hm.disk (by have := hm.few; omega) hZ hm.kept hf.p cap2
              go_wp2_with fail
              refine cX.mono ?_
              rintro e w6 ⟨r6, rfl, p6, hp6, d6, k6⟩
              clear cX
              obtain ⟨V, t, ⟨hV, ht0, ht1⟩, hp⟩ := hm.safe p6 hp6
              have hB2 : B2 < 400000 := by have := hm.few; omega
              have s6 := hm.s.kept k6 (by simp; omega)
              have n6 := hm.n.kept k6 (by simp; omega)
              have kk6 : Kept [] w w6 := (hm.kept.mono (by simp)).trans k6 |>.fewer (by simp; omega)
              clear hm hp6
              have cO := reopen2 d6 (by decide) (by omega) ht0 (by omega) hp
              go_wp2_with fail
              refine cO.mono ?_
              rintro e w7 ⟨lh, rfl, hlh, W7, ⟨σ7, d7, sf7⟩, k7⟩
              clear cO d6 hp
              have hs6 := n6.lt
              have hkz := kk6.size
              have hF : FsZ w db pb mb lh sb nb S N V t σ7 (B2 + 43) w7 := ⟨s6.kept k7 (by simp; omega), n6.kept k7 (by simp; omega), W7, d7, (kk6.mono (by simp)).trans k7 |>.fewer (by simp; omega)⟩
              have hsl := s6.len
              have hnl := n6.len
              have fon : ∀ {X Y : World}, FsZ w db pb mb lh sb nb S N V t σ7 (B2 + 43) X → Works Y lh db pb mb 60 (B2 + 43) V t → Kept [lh] X Y → FsZ w db pb mb lh sb nb S N V t σ7 (B2 + 43) Y := fun h hw k => h.on hw k (by omega) (by omega) (by omega) (by omega) (by omega) (by omega)
              clear s6 n6 W7 d7 k6 k7 kk6
              obtain ⟨b1, b2, hb1, hb2⟩ : ∃ b1 b2 : Bool, (b1 = true ↔ Tells V S) ∧ (b2 = true ↔ Tells V N) := by classical exact ⟨decide (Tells V S), decide (Tells V N), decide_eq_true_iff, decide_eq_true_iff⟩
              have cH1 : ∀ X, FsZ w db pb mb lh sb nb S N V t σ7 (B2 + 43) X → Calls Try.prog 30 #[.pointer (some ⟨lh, 0, none⟩), stOf S] X fun e Y => e = .returned (.bool b1) ∧ FsZ w db pb mb lh sb nb S N V t σ7 (B2 + 43) Y := fun X hX => (holds_any hX.works S hsl).mono fun e Y ⟨b, he, hb, hw, hk⟩ => ⟨by rw [he, show b = b1 from Bool.eq_iff_iff.2 (hb.trans hb1.symm)], fon hX hw hk⟩
              have cH2 : ∀ X, FsZ w db pb mb lh sb nb S N V t σ7 (B2 + 43) X → Calls Try.prog 30 #[.pointer (some ⟨lh, 0, none⟩), stOf N] X fun e Y => e = .returned (.bool b2) ∧ FsZ w db pb mb lh sb nb S N V t σ7 (B2 + 43) Y := fun X hX => (holds_any hX.works N hnl).mono fun e Y ⟨b, he, hb, hw, hk⟩ => ⟨by rw [he, show b = b2 from Bool.eq_iff_iff.2 (hb.trans hb2.symm)], fon hX hw hk⟩
              have cS1 : ∀ X, FsZ w db pb mb lh sb nb S N V t σ7 (B2 + 43) X → Calls Try.prog 31 #[.pointer (some ⟨lh, 0, none⟩)] X fun e Y => e = .returned (.int .i64 t) ∧ FsZ w db pb mb lh sb nb S N V t σ7 (B2 + 43) Y := fun X hX => (seq_works hX.works).mono fun e Y ⟨he, hw, hk⟩ => ⟨he, fon hX hw hk⟩
              go_wp2_with fail
              refine wp_region_held_drew (S := FsZ w db pb mb lh sb nb S N V t σ7 (B2 + 43)) (by kernel_rfl) (hF.drew) ?_
              intro hHeld
              clear hF
              refine wpAnyH_take (i := 0) (v := ?_) (by simp only [List.getElem?_toArray, List.getElem?_cons_zero]; rfl) (by kernel_rfl) (by kernel_rfl) (by kernel_rfl) (by exact fun _ _ _ h => h) (Or.inl ⟨by rfl, ?_⟩) (by assumption) ?_; rotate_left; (focus (intro w hSw; go_simp; try with_reducible rfl)); simp only [Act.put, List.setIfInBounds_toArray, List.set_cons_zero, List.set_cons_succ]
              refine wpAnyH_take (i := 1) (v := stOf S) (by simp only [List.getElem?_toArray, List.getElem?_cons_zero, List.getElem?_cons_succ]; rfl) (by kernel_rfl) (by kernel_rfl) (by kernel_rfl) (by exact fun _ _ _ h => h) (yieldsIf_load_mid (by rfl) _ _ rfl sb 0 rfl (stCells S) _ (fun W hW => hW.s.cells) Try.underlying58 rfl (by rw [size_st, st_len, hsl])) (by assumption) ?_; simp only [Act.put, List.setIfInBounds_toArray, List.set_cons_zero, List.set_cons_succ]
              refine wpAnyH_take (i := 3) (v := ?_) (by simp only [List.getElem?_toArray, List.getElem?_cons_zero, List.getElem?_cons_succ]; rfl) (by kernel_rfl) (by kernel_rfl) (by kernel_rfl) (by exact fun _ _ _ h => h) (Or.inl ⟨by rfl, ?_⟩) (by assumption) ?_; rotate_left; (focus (intro w hSw; go_simp; try with_reducible rfl)); simp only [Act.put, List.setIfInBounds_toArray, List.set_cons_zero, List.set_cons_succ]
              refine wpAnyH_take (i := 4) (v := stOf N) (by simp only [List.getElem?_toArray, List.getElem?_cons_zero, List.getElem?_cons_succ]; rfl) (by kernel_rfl) (by kernel_rfl) (by kernel_rfl) (by exact fun _ _ _ h => h) (yieldsIf_load_mid (by rfl) _ _ rfl nb 0 rfl (stCells N) _ (fun W hW => hW.n.cells) Try.underlying58 rfl (by rw [size_st, st_len, hnl])) (by assumption) ?_; simp only [Act.put, List.setIfInBounds_toArray, List.set_cons_zero, List.set_cons_succ]
              refine wpAnyH_take (i := 6) (v := ?_) (by simp only [List.getElem?_toArray, List.getElem?_cons_zero, List.getElem?_cons_succ]; rfl) (by kernel_rfl) (by kernel_rfl) (by kernel_rfl) (by exact fun _ _ _ h => h) (Or.inl ⟨by rfl, ?_⟩) (by assumption) ?_; rotate_left; (focus (intro w hSw; go_simp; try with_reducible rfl)); simp only [Act.put, List.setIfInBounds_toArray, List.set_cons_zero, List.set_cons_succ]
              refine wpAnyH_ready (rs := [2]) (by kernel_rfl) (by simp) ?_
              refine AllReadyH.cons (by simp only [List.getElem?_toArray, List.getElem?_cons_zero, List.getElem?_cons_succ]; rfl) (fun K hK => ?_) AllReadyH.nil
              go_simp
              go_at_call 30
              refine (cH1 _ hHeld).mono ?_
              rintro e x2 ⟨rfl, hG2⟩
              refine hK.out _ _ (hG2) ?_
              clear hHeld hK
              intro hHeld
              (try simp only [Act.put, List.setIfInBounds_toArray, List.set_cons_zero, List.set_cons_succ])
              refine wpAnyH_ready (rs := [5]) (by kernel_rfl) (by simp) ?_
              refine AllReadyH.cons (by simp only [List.getElem?_toArray, List.getElem?_cons_zero, List.getElem?_cons_succ]; rfl) (fun K hK => ?_) AllReadyH.nil
              go_simp
              go_at_call 30
              refine (cH2 _ hHeld).mono ?_
              rintro e x5 ⟨rfl, hG5⟩
              refine hK.out _ _ (hG5) ?_
              clear hHeld hK
              intro hHeld
              (try simp only [Act.put, List.setIfInBounds_toArray, List.set_cons_zero, List.set_cons_succ])
              refine wpAnyH_ready (rs := [7]) (by kernel_rfl) (by simp) ?_
              refine AllReadyH.cons (by simp only [List.getElem?_toArray, List.getElem?_cons_zero, List.getElem?_cons_succ]; rfl) (fun K hK => ?_) AllReadyH.nil
              go_simp
              go_at_call 31
              refine (cS1 _ hHeld).mono ?_
              rintro e x7 ⟨rfl, hG7⟩
              refine hK.out _ _ (hG7) ?_
              clear hHeld hK
              intro hHeld
              (try simp only [Act.put, List.setIfInBounds_toArray, List.set_cons_zero, List.set_cons_succ])
              refine wpAnyH_take (i := 8) (v := ?_) (by simp only [List.getElem?_toArray, List.getElem?_cons_zero, List.getElem?_cons_succ]; rfl) (by kernel_rfl) (by kernel_rfl) (by kernel_rfl) (by exact fun _ _ _ h => h) (Or.inl ⟨by rfl, ?_⟩) (by assumption) ?_; rotate_left; (focus (intro w hSw; go_simp; try with_reducible rfl)); simp only [Act.put, List.setIfInBounds_toArray, List.set_cons_zero, List.set_cons_succ]
              refine wpAnyH_take (i := 9) (v := ?_) (by simp only [List.getElem?_toArray, List.getElem?_cons_zero, List.getElem?_cons_succ]; rfl) (by kernel_rfl) (by kernel_rfl) (by kernel_rfl) (by exact fun _ _ _ h => h) (Or.inl ⟨by rfl, ?_⟩) (by assumption) ?_; rotate_left; (focus (intro w hSw; go_simp; try with_reducible rfl)); simp only [Act.put, List.setIfInBounds_toArray, List.set_cons_zero, List.set_cons_succ]
              refine wpAnyH_take (i := 10) (v := ?_) (by simp only [List.getElem?_toArray, List.getElem?_cons_zero, List.getElem?_cons_succ]; rfl) (by kernel_rfl) (by kernel_rfl) (by kernel_rfl) (by exact fun _ _ _ h => h) (Or.inl ⟨by rfl, ?_⟩) (by assumption) ?_; rotate_left; (focus (intro w hSw; go_simp; try with_reducible rfl)); simp only [Act.put, List.setIfInBounds_toArray, List.set_cons_zero, List.set_cons_succ]
              refine wpAnyH_done (by kernel_rfl) ?_ _
              clear hG2 hG5 hG7 cH1 cH2 cS1 fon
              have hB3 : B2 + 43 ≤ 1000000 := by omega
              have hor : b1 = true ∨ (b1 = false ∧ b2 = true) := by cases b1 with | true => exact Or.inl rfl | false => exact Or.inr ⟨rfl, hb2.2 (hV.resolve_left fun h => by cases hb1.2 h)⟩
              have cX := crashAt hHeld.disk hB3 hZ hHeld.kept hf.p cap2
              rcases hor with rfl | ⟨rfl, rfl⟩
              · have hTT : Tells V S := hb1.1 rfl
                clear hb1 hb2 hV
                go_wp2_with fail
                refine cX.mono ?_
                rintro e w8 ⟨r8, rfl, p8, hp8, d8, k8⟩
                clear cX
                obtain ⟨V8, t8, ⟨rfl, rfl⟩, hp⟩ := sf7 p8 hp8
                have s8 := hHeld.s.kept k8 (by simp; omega)
                have n8 := hHeld.n.kept k8 (by simp; omega)
                have kk8 : Kept [] w w8 := (hHeld.kept.mono (by simp)).trans k8 |>.fewer (by simp; omega)
                have cO := reopen2 d8 (by decide) (by omega) ht0 (by omega) hp
                clear hHeld hp8 sf7
                go_wp2_with fail
                refine cO.mono ?_
                rintro e w9 ⟨lk, rfl, hlk, W9, _, k9⟩
                clear cO d8 hp
                have s9 := s8.kept k9 (by simp; omega)
                have n9 := n8.kept k9 (by simp; omega)
                have kk9 : Kept [] w w9 := (kk8.mono (by simp)).trans k9 |>.fewer (by simp; omega)
                have hkz8 := kk8.size
                clear s8 n8 kk8 k8 k9
                have cH := holds_any W9 S hsl
                have hsc := s9.cells
                go_wp2_with (first | (refine wpList_load_stg (by first | rfl | simp [Region.wanted, yielded]) _ rfl _ rfl _ hsl hsc ?_) | fail)
                refine cH.mono ?_
                rintro e wa ⟨b, rfl, hbb, Wa, ka⟩
                obtain rfl : b = true := hbb.2 hTT
                have kka : Kept [] w wa := (kk9.mono (by simp)).trans ka |>.fewer (by simp; omega)
                have cS := seq_works Wa
                clear cH hbb hsc s9 n9 kk9 ka
                go_wp2_with fail
                refine cS.mono ?_
                rintro e wb ⟨rfl, Wb, kb⟩
                have kkb : Kept [] w wb := (kka.mono (by simp)).trans kb |>.fewer (by simp; omega)
                have hbel : Below w.heap.size w wb := kkb.to_below (Nat.le_refl _) (by simp)
                clear cS Wa Wb kka kb kkb
                go_wp2
                go_ret
                exact ⟨rfl, hbel⟩
              · have hTT : Tells V N := hb2.1 rfl
                clear hb1 hb2 hV
                go_wp2_with fail
                refine cX.mono ?_
                rintro e w8 ⟨r8, rfl, p8, hp8, d8, k8⟩
                clear cX
                obtain ⟨V8, t8, ⟨rfl, rfl⟩, hp⟩ := sf7 p8 hp8
                have s8 := hHeld.s.kept k8 (by simp; omega)
                have n8 := hHeld.n.kept k8 (by simp; omega)
                have kk8 : Kept [] w w8 := (hHeld.kept.mono (by simp)).trans k8 |>.fewer (by simp; omega)
                have cO := reopen2 d8 (by decide) (by omega) ht0 (by omega) hp
                clear hHeld hp8 sf7
                go_wp2_with fail
                refine cO.mono ?_
                rintro e w9 ⟨lk, rfl, hlk, W9, _, k9⟩
                clear cO d8 hp
                have s9 := s8.kept k9 (by simp; omega)
                have n9 := n8.kept k9 (by simp; omega)
                have kk9 : Kept [] w w9 := (kk8.mono (by simp)).trans k9 |>.fewer (by simp; omega)
                have hkz8 := kk8.size
                clear s8 n8 kk8 k8 k9
                have cH := holds_any W9 N hnl
                have hsc := n9.cells
                go_wp2_with (first | (refine wpList_load_stg (by first | rfl | simp [Region.wanted, yielded]) _ rfl _ rfl _ hnl hsc ?_) | fail)
                refine cH.mono ?_
                rintro e wa ⟨b, rfl, hbb, Wa, ka⟩
                obtain rfl : b = true := hbb.2 hTT
                have kka : Kept [] w wa := (kk9.mono (by simp)).trans ka |>.fewer (by simp; omega)
                have cS := seq_works Wa
                clear cH hbb hsc s9 n9 kk9 ka
                go_wp2_with fail
                refine cS.mono ?_
                rintro e wb ⟨rfl, Wb, kb⟩
                have kkb : Kept [] w wb := (kka.mono (by simp)).trans kb |>.fewer (by simp; omega)
                have hbel : Below w.heap.size w wb := kkb.to_below (Nat.le_refl _) (by simp)
                clear cS Wa Wb kka kb kkb
                go_wp2
                go_ret
                exact ⟨rfl, hbel⟩
      · clear hgo
        go_wp2_with fail
        have hL2 : L2 w db pb mb sb nb S N _ 0 σ B := ⟨hl.disk, by have := hl.few; omega, hl.s, hl.n, hl.safe, hl.kept⟩
        clear hl
        go_loopw [17] (fun t17 wr => ∃ (q2 : Int) (σ2 : Dsk) (B2 : Nat), 0 ≤ q2 ∧ q2 ≤ 4 ∧ t17 = .int .i64 q2 ∧ L2 w db pb mb sb nb S N wr q2 σ2 B2) (fun t17 _ => 4 - (Go.RowKit.intOf t17).toNat)
        case atStart => exact ⟨0, σ, B, by omega, by omega, rfl, hL2⟩
        case round =>
          obtain ⟨q2, σ2, B2, h20, h21, rfl, hm⟩ := hrel
          clear hL2
          obtain ⟨f1, f2, f3, f4, f5, f6, f7, f8, f9⟩ := id hf
          by_cases hgo2 : q2 < len3 ∧ q2 < 4
          · obtain ⟨e1, e2⟩ := hgo2
            have cX := crashAt hm.disk (by have := hm.few; omega) hZ hm.kept hf.p cap2
            go_wp2_with fail
            refine cX.mono ?_
            rintro e w6 ⟨r6, rfl, p6, hp6, d6, k6⟩
            clear cX
            obtain ⟨V, t, ⟨hV, ht0, ht1⟩, hp⟩ := hm.safe p6 hp6
            have hB2 := hm.few
            have s6 := hm.s.kept k6 (by simp; omega)
            have n6 := hm.n.kept k6 (by simp; omega)
            have kk6 : Kept [] w w6 := (hm.kept.mono (by simp)).trans k6 |>.fewer (by simp; omega)
            clear hm hp6 k6
            obtain ⟨y, rfl, hy⟩ := (hA.grown kk6).2 (by omega)
            have cy := hy q2.toNat (by omega)
            obtain ⟨z, hz⟩ : ∃ z, ag.getD q2.toNat 0 = z := ⟨_, rfl⟩
            rw [hz] at cy
            clear hy hz
            have cW := withinAt z 12 (by decide) (by decide) w6
            go_wp2_with fail
            refine cW.mono ?_
            rintro e w7 ⟨rfl, k7⟩
            clear cW cy
            have hz0 := Int.emod_nonneg z (show (12 : Int) ≠ 0 by decide)
            have hz1 := Int.emod_lt_of_pos z (show (0 : Int) < 12 by decide)
            obtain ⟨st, hst⟩ : ∃ st, 1 + z % 12 = st := ⟨_, rfl⟩
            have hst0 : 0 ≤ st := by omega
            have hst1 : st < 1000000 := by omega
            have cS := stopAt (d6.kept k7 (by simp) (by simp) (by simp)) st hst0 hst1
            go_wp2_with fail
            refine cS.mono ?_
            rintro e w8 ⟨rfl, d8, k8⟩
            clear cS hst hz0 hz1 d6
            have kk7 := k7.trans (Kept.refl [] w7)
            have s8 := (s6.kept k7 (by simp)).kept k8 (by simp; omega)
            have n8 := (n6.kept k7 (by simp)).kept k8 (by simp; omega)
            have kk8 : Kept [] w w8 := ((kk6.trans k7).mono (by simp)).trans k8 |>.fewer (by simp; omega)
            have cO := open_cut d8 (by decide) (by omega) ht0 (by omega) hp
            clear kk7 s6 n6 kk6 k7 k8 d8 hp
            go_wp2_with fail
            refine cO.mono ?_
            rintro e w9 ⟨⟨xx, cc, rfl⟩, ⟨σ9, d9, sf9⟩, k9⟩
            clear cO
            have hL3 : L2 w db pb mb sb nb S N w9 (q2 + 1) σ9 (B2 + 43) := ⟨d9, by omega, s8.kept k9 (by simp; omega), n8.kept k9 (by simp; omega), sf9.more fun V' t' ⟨a, b⟩ => by subst a; subst b; exact ⟨hV, ht0, ht1⟩, (kk8.mono (by simp)).trans k9 |>.fewer (by simp; omega)⟩
            clear d9 sf9 s8 n8 kk8 k9 hV
            go_wp2_with fail
            go_roundw
            case rel => exact ⟨q2 + 1, σ9, B2 + 43, by omega, by omega, rfl, hL3⟩
            case measure => simp [Go.RowKit.intOf]; omega
          · by_cases e1 : q2 < len3
            · have e2 : ¬ q2 < 4 := fun h => hgo2 ⟨e1, h⟩
              clear hgo2 hA
              have cX := crashAt hm.disk (by have := hm.few; omega) hZ hm.kept hf.p cap2
              go_wp2_with fail
              refine cX.mono ?_
              rintro e w6 ⟨r6, rfl, p6, hp6, d6, k6⟩
              clear cX
              obtain ⟨V, t, ⟨hV, ht0, ht1⟩, hp⟩ := hm.safe p6 hp6
              have hB2 : B2 < 400000 := by have := hm.few; omega
              have s6 := hm.s.kept k6 (by simp; omega)
              have n6 := hm.n.kept k6 (by simp; omega)
              have kk6 : Kept [] w w6 := (hm.kept.mono (by simp)).trans k6 |>.fewer (by simp; omega)
              clear hm hp6
              have cO := reopen2 d6 (by decide) (by omega) ht0 (by omega) hp
              go_wp2_with fail
              refine cO.mono ?_
              rintro e w7 ⟨lh, rfl, hlh, W7, ⟨σ7, d7, sf7⟩, k7⟩
              clear cO d6 hp
              have hs6 := n6.lt
              have hkz := kk6.size
              have hF : FsZ w db pb mb lh sb nb S N V t σ7 (B2 + 43) w7 := ⟨s6.kept k7 (by simp; omega), n6.kept k7 (by simp; omega), W7, d7, (kk6.mono (by simp)).trans k7 |>.fewer (by simp; omega)⟩
              have hsl := s6.len
              have hnl := n6.len
              have fon : ∀ {X Y : World}, FsZ w db pb mb lh sb nb S N V t σ7 (B2 + 43) X → Works Y lh db pb mb 60 (B2 + 43) V t → Kept [lh] X Y → FsZ w db pb mb lh sb nb S N V t σ7 (B2 + 43) Y := fun h hw k => h.on hw k (by omega) (by omega) (by omega) (by omega) (by omega) (by omega)
              clear s6 n6 W7 d7 k6 k7 kk6
              obtain ⟨b1, b2, hb1, hb2⟩ : ∃ b1 b2 : Bool, (b1 = true ↔ Tells V S) ∧ (b2 = true ↔ Tells V N) := by classical exact ⟨decide (Tells V S), decide (Tells V N), decide_eq_true_iff, decide_eq_true_iff⟩
              have cH1 : ∀ X, FsZ w db pb mb lh sb nb S N V t σ7 (B2 + 43) X → Calls Try.prog 30 #[.pointer (some ⟨lh, 0, none⟩), stOf S] X fun e Y => e = .returned (.bool b1) ∧ FsZ w db pb mb lh sb nb S N V t σ7 (B2 + 43) Y := fun X hX => (holds_any hX.works S hsl).mono fun e Y ⟨b, he, hb, hw, hk⟩ => ⟨by rw [he, show b = b1 from Bool.eq_iff_iff.2 (hb.trans hb1.symm)], fon hX hw hk⟩
              have cH2 : ∀ X, FsZ w db pb mb lh sb nb S N V t σ7 (B2 + 43) X → Calls Try.prog 30 #[.pointer (some ⟨lh, 0, none⟩), stOf N] X fun e Y => e = .returned (.bool b2) ∧ FsZ w db pb mb lh sb nb S N V t σ7 (B2 + 43) Y := fun X hX => (holds_any hX.works N hnl).mono fun e Y ⟨b, he, hb, hw, hk⟩ => ⟨by rw [he, show b = b2 from Bool.eq_iff_iff.2 (hb.trans hb2.symm)], fon hX hw hk⟩
              have cS1 : ∀ X, FsZ w db pb mb lh sb nb S N V t σ7 (B2 + 43) X → Calls Try.prog 31 #[.pointer (some ⟨lh, 0, none⟩)] X fun e Y => e = .returned (.int .i64 t) ∧ FsZ w db pb mb lh sb nb S N V t σ7 (B2 + 43) Y := fun X hX => (seq_works hX.works).mono fun e Y ⟨he, hw, hk⟩ => ⟨he, fon hX hw hk⟩
              go_wp2_with fail
              refine wp_region_held_drew (S := FsZ w db pb mb lh sb nb S N V t σ7 (B2 + 43)) (by kernel_rfl) (hF.drew) ?_
              intro hHeld
              clear hF
              refine wpAnyH_take (i := 0) (v := ?_) (by simp only [List.getElem?_toArray, List.getElem?_cons_zero]; rfl) (by kernel_rfl) (by kernel_rfl) (by kernel_rfl) (by exact fun _ _ _ h => h) (Or.inl ⟨by rfl, ?_⟩) (by assumption) ?_; rotate_left; (focus (intro w hSw; go_simp; try with_reducible rfl)); simp only [Act.put, List.setIfInBounds_toArray, List.set_cons_zero, List.set_cons_succ]
              refine wpAnyH_take (i := 1) (v := stOf S) (by simp only [List.getElem?_toArray, List.getElem?_cons_zero, List.getElem?_cons_succ]; rfl) (by kernel_rfl) (by kernel_rfl) (by kernel_rfl) (by exact fun _ _ _ h => h) (yieldsIf_load_mid (by rfl) _ _ rfl sb 0 rfl (stCells S) _ (fun W hW => hW.s.cells) Try.underlying58 rfl (by rw [size_st, st_len, hsl])) (by assumption) ?_; simp only [Act.put, List.setIfInBounds_toArray, List.set_cons_zero, List.set_cons_succ]
              refine wpAnyH_take (i := 3) (v := ?_) (by simp only [List.getElem?_toArray, List.getElem?_cons_zero, List.getElem?_cons_succ]; rfl) (by kernel_rfl) (by kernel_rfl) (by kernel_rfl) (by exact fun _ _ _ h => h) (Or.inl ⟨by rfl, ?_⟩) (by assumption) ?_; rotate_left; (focus (intro w hSw; go_simp; try with_reducible rfl)); simp only [Act.put, List.setIfInBounds_toArray, List.set_cons_zero, List.set_cons_succ]
              refine wpAnyH_take (i := 4) (v := stOf N) (by simp only [List.getElem?_toArray, List.getElem?_cons_zero, List.getElem?_cons_succ]; rfl) (by kernel_rfl) (by kernel_rfl) (by kernel_rfl) (by exact fun _ _ _ h => h) (yieldsIf_load_mid (by rfl) _ _ rfl nb 0 rfl (stCells N) _ (fun W hW => hW.n.cells) Try.underlying58 rfl (by rw [size_st, st_len, hnl])) (by assumption) ?_; simp only [Act.put, List.setIfInBounds_toArray, List.set_cons_zero, List.set_cons_succ]
              refine wpAnyH_take (i := 6) (v := ?_) (by simp only [List.getElem?_toArray, List.getElem?_cons_zero, List.getElem?_cons_succ]; rfl) (by kernel_rfl) (by kernel_rfl) (by kernel_rfl) (by exact fun _ _ _ h => h) (Or.inl ⟨by rfl, ?_⟩) (by assumption) ?_; rotate_left; (focus (intro w hSw; go_simp; try with_reducible rfl)); simp only [Act.put, List.setIfInBounds_toArray, List.set_cons_zero, List.set_cons_succ]
              refine wpAnyH_ready (rs := [2]) (by kernel_rfl) (by simp) ?_
              refine AllReadyH.cons (by simp only [List.getElem?_toArray, List.getElem?_cons_zero, List.getElem?_cons_succ]; rfl) (fun K hK => ?_) AllReadyH.nil
              go_simp
              go_at_call 30
              refine (cH1 _ hHeld).mono ?_
              rintro e x2 ⟨rfl, hG2⟩
              refine hK.out _ _ (hG2) ?_
              clear hHeld hK
              intro hHeld
              (try simp only [Act.put, List.setIfInBounds_toArray, List.set_cons_zero, List.set_cons_succ])
              refine wpAnyH_ready (rs := [5]) (by kernel_rfl) (by simp) ?_
              refine AllReadyH.cons (by simp only [List.getElem?_toArray, List.getElem?_cons_zero, List.getElem?_cons_succ]; rfl) (fun K hK => ?_) AllReadyH.nil
              go_simp
              go_at_call 30
              refine (cH2 _ hHeld).mono ?_
              rintro e x5 ⟨rfl, hG5⟩
              refine hK.out _ _ (hG5) ?_
              clear hHeld hK
              intro hHeld
              (try simp only [Act.put, List.setIfInBounds_toArray, List.set_cons_zero, List.set_cons_succ])
              refine wpAnyH_ready (rs := [7]) (by kernel_rfl) (by simp) ?_
              refine AllReadyH.cons (by simp only [List.getElem?_toArray, List.getElem?_cons_zero, List.getElem?_cons_succ]; rfl) (fun K hK => ?_) AllReadyH.nil
              go_simp
              go_at_call 31
              refine (cS1 _ hHeld).mono ?_
              rintro e x7 ⟨rfl, hG7⟩
              refine hK.out _ _ (hG7) ?_
              clear hHeld hK
              intro hHeld
              (try simp only [Act.put, List.setIfInBounds_toArray, List.set_cons_zero, List.set_cons_succ])
              refine wpAnyH_take (i := 8) (v := ?_) (by simp only [List.getElem?_toArray, List.getElem?_cons_zero, List.getElem?_cons_succ]; rfl) (by kernel_rfl) (by kernel_rfl) (by kernel_rfl) (by exact fun _ _ _ h => h) (Or.inl ⟨by rfl, ?_⟩) (by assumption) ?_; rotate_left; (focus (intro w hSw; go_simp; try with_reducible rfl)); simp only [Act.put, List.setIfInBounds_toArray, List.set_cons_zero, List.set_cons_succ]
              refine wpAnyH_take (i := 9) (v := ?_) (by simp only [List.getElem?_toArray, List.getElem?_cons_zero, List.getElem?_cons_succ]; rfl) (by kernel_rfl) (by kernel_rfl) (by kernel_rfl) (by exact fun _ _ _ h => h) (Or.inl ⟨by rfl, ?_⟩) (by assumption) ?_; rotate_left; (focus (intro w hSw; go_simp; try with_reducible rfl)); simp only [Act.put, List.setIfInBounds_toArray, List.set_cons_zero, List.set_cons_succ]
              refine wpAnyH_take (i := 10) (v := ?_) (by simp only [List.getElem?_toArray, List.getElem?_cons_zero, List.getElem?_cons_succ]; rfl) (by kernel_rfl) (by kernel_rfl) (by kernel_rfl) (by exact fun _ _ _ h => h) (Or.inl ⟨by rfl, ?_⟩) (by assumption) ?_; rotate_left; (focus (intro w hSw; go_simp; try with_reducible rfl)); simp only [Act.put, List.setIfInBounds_toArray, List.set_cons_zero, List.set_cons_succ]
              refine wpAnyH_done (by kernel_rfl) ?_ _
              clear hG2 hG5 hG7 cH1 cH2 cS1 fon
              have hB3 : B2 + 43 ≤ 1000000 := by omega
              have hor : b1 = true ∨ (b1 = false ∧ b2 = true) := by cases b1 with | true => exact Or.inl rfl | false => exact Or.inr ⟨rfl, hb2.2 (hV.resolve_left fun h => by cases hb1.2 h)⟩
              have cX := crashAt hHeld.disk hB3 hZ hHeld.kept hf.p cap2
              rcases hor with rfl | ⟨rfl, rfl⟩
              · have hTT : Tells V S := hb1.1 rfl
                clear hb1 hb2 hV
                go_wp2_with fail
                refine cX.mono ?_
                rintro e w8 ⟨r8, rfl, p8, hp8, d8, k8⟩
                clear cX
                obtain ⟨V8, t8, ⟨rfl, rfl⟩, hp⟩ := sf7 p8 hp8
                have s8 := hHeld.s.kept k8 (by simp; omega)
                have n8 := hHeld.n.kept k8 (by simp; omega)
                have kk8 : Kept [] w w8 := (hHeld.kept.mono (by simp)).trans k8 |>.fewer (by simp; omega)
                have cO := reopen2 d8 (by decide) (by omega) ht0 (by omega) hp
                clear hHeld hp8 sf7
                go_wp2_with fail
                refine cO.mono ?_
                rintro e w9 ⟨lk, rfl, hlk, W9, _, k9⟩
                clear cO d8 hp
                have s9 := s8.kept k9 (by simp; omega)
                have n9 := n8.kept k9 (by simp; omega)
                have kk9 : Kept [] w w9 := (kk8.mono (by simp)).trans k9 |>.fewer (by simp; omega)
                have hkz8 := kk8.size
                clear s8 n8 kk8 k8 k9
                have cH := holds_any W9 S hsl
                have hsc := s9.cells
                go_wp2_with (first | (refine wpList_load_stg (by first | rfl | simp [Region.wanted, yielded]) _ rfl _ rfl _ hsl hsc ?_) | fail)
                refine cH.mono ?_
                rintro e wa ⟨b, rfl, hbb, Wa, ka⟩
                obtain rfl : b = true := hbb.2 hTT
                have kka : Kept [] w wa := (kk9.mono (by simp)).trans ka |>.fewer (by simp; omega)
                have cS := seq_works Wa
                clear cH hbb hsc s9 n9 kk9 ka
                go_wp2_with fail
                refine cS.mono ?_
                rintro e wb ⟨rfl, Wb, kb⟩
                have kkb : Kept [] w wb := (kka.mono (by simp)).trans kb |>.fewer (by simp; omega)
                have hbel : Below w.heap.size w wb := kkb.to_below (Nat.le_refl _) (by simp)
                clear cS Wa Wb kka kb kkb
                go_wp2
                go_ret
                exact ⟨rfl, hbel⟩
              · have hTT : Tells V N := hb2.1 rfl
                clear hb1 hb2 hV
                go_wp2_with fail
                refine cX.mono ?_
                rintro e w8 ⟨r8, rfl, p8, hp8, d8, k8⟩
                clear cX
                obtain ⟨V8, t8, ⟨rfl, rfl⟩, hp⟩ := sf7 p8 hp8
                have s8 := hHeld.s.kept k8 (by simp; omega)
                have n8 := hHeld.n.kept k8 (by simp; omega)
                have kk8 : Kept [] w w8 := (hHeld.kept.mono (by simp)).trans k8 |>.fewer (by simp; omega)
                have cO := reopen2 d8 (by decide) (by omega) ht0 (by omega) hp
                clear hHeld hp8 sf7
                go_wp2_with fail
                refine cO.mono ?_
                rintro e w9 ⟨lk, rfl, hlk, W9, _, k9⟩
                clear cO d8 hp
                have s9 := s8.kept k9 (by simp; omega)
                have n9 := n8.kept k9 (by simp; omega)
                have kk9 : Kept [] w w9 := (kk8.mono (by simp)).trans k9 |>.fewer (by simp; omega)
                have hkz8 := kk8.size
                clear s8 n8 kk8 k8 k9
                have cH := holds_any W9 N hnl
                have hsc := n9.cells
                go_wp2_with (first | (refine wpList_load_stg (by first | rfl | simp [Region.wanted, yielded]) _ rfl _ rfl _ hnl hsc ?_) | fail)
                refine cH.mono ?_
                rintro e wa ⟨b, rfl, hbb, Wa, ka⟩
                obtain rfl : b = true := hbb.2 hTT
                have kka : Kept [] w wa := (kk9.mono (by simp)).trans ka |>.fewer (by simp; omega)
                have cS := seq_works Wa
                clear cH hbb hsc s9 n9 kk9 ka
                go_wp2_with fail
                refine cS.mono ?_
                rintro e wb ⟨rfl, Wb, kb⟩
                have kkb : Kept [] w wb := (kka.mono (by simp)).trans kb |>.fewer (by simp; omega)
                have hbel : Below w.heap.size w wb := kkb.to_below (Nat.le_refl _) (by simp)
                clear cS Wa Wb kka kb kkb
                go_wp2
                go_ret
                exact ⟨rfl, hbel⟩
            · clear hgo2 hA
              have cX := crashAt hm.disk (by have := hm.few; omega) hZ hm.kept hf.p cap2
              go_wp2_with fail
              refine cX.mono ?_
              rintro e w6 ⟨r6, rfl, p6, hp6, d6, k6⟩
              clear cX
              obtain ⟨V, t, ⟨hV, ht0, ht1⟩, hp⟩ := hm.safe p6 hp6
              have hB2 : B2 < 400000 := by have := hm.few; omega
              have s6 := hm.s.kept k6 (by simp; omega)
              have n6 := hm.n.kept k6 (by simp; omega)
              have kk6 : Kept [] w w6 := (hm.kept.mono (by simp)).trans k6 |>.fewer (by simp; omega)
              clear hm hp6
              have cO := reopen2 d6 (by decide) (by omega) ht0 (by omega) hp
              go_wp2_with fail
              refine cO.mono ?_
              rintro e w7 ⟨lh, rfl, hlh, W7, ⟨σ7, d7, sf7⟩, k7⟩
              clear cO d6 hp
              have hs6 := n6.lt
              have hkz := kk6.size
              have hF : FsZ w db pb mb lh sb nb S N V t σ7 (B2 + 43) w7 := ⟨s6.kept k7 (by simp; omega), n6.kept k7 (by simp; omega), W7, d7, (kk6.mono (by simp)).trans k7 |>.fewer (by simp; omega)⟩
              have hsl := s6.len
              have hnl := n6.len
              have fon : ∀ {X Y : World}, FsZ w db pb mb lh sb nb S N V t σ7 (B2 + 43) X → Works Y lh db pb mb 60 (B2 + 43) V t → Kept [lh] X Y → FsZ w db pb mb lh sb nb S N V t σ7 (B2 + 43) Y := fun h hw k => h.on hw k (by omega) (by omega) (by omega) (by omega) (by omega) (by omega)
              clear s6 n6 W7 d7 k6 k7 kk6
              obtain ⟨b1, b2, hb1, hb2⟩ : ∃ b1 b2 : Bool, (b1 = true ↔ Tells V S) ∧ (b2 = true ↔ Tells V N) := by classical exact ⟨decide (Tells V S), decide (Tells V N), decide_eq_true_iff, decide_eq_true_iff⟩
              have cH1 : ∀ X, FsZ w db pb mb lh sb nb S N V t σ7 (B2 + 43) X → Calls Try.prog 30 #[.pointer (some ⟨lh, 0, none⟩), stOf S] X fun e Y => e = .returned (.bool b1) ∧ FsZ w db pb mb lh sb nb S N V t σ7 (B2 + 43) Y := fun X hX => (holds_any hX.works S hsl).mono fun e Y ⟨b, he, hb, hw, hk⟩ => ⟨by rw [he, show b = b1 from Bool.eq_iff_iff.2 (hb.trans hb1.symm)], fon hX hw hk⟩
              have cH2 : ∀ X, FsZ w db pb mb lh sb nb S N V t σ7 (B2 + 43) X → Calls Try.prog 30 #[.pointer (some ⟨lh, 0, none⟩), stOf N] X fun e Y => e = .returned (.bool b2) ∧ FsZ w db pb mb lh sb nb S N V t σ7 (B2 + 43) Y := fun X hX => (holds_any hX.works N hnl).mono fun e Y ⟨b, he, hb, hw, hk⟩ => ⟨by rw [he, show b = b2 from Bool.eq_iff_iff.2 (hb.trans hb2.symm)], fon hX hw hk⟩
              have cS1 : ∀ X, FsZ w db pb mb lh sb nb S N V t σ7 (B2 + 43) X → Calls Try.prog 31 #[.pointer (some ⟨lh, 0, none⟩)] X fun e Y => e = .returned (.int .i64 t) ∧ FsZ w db pb mb lh sb nb S N V t σ7 (B2 + 43) Y := fun X hX => (seq_works hX.works).mono fun e Y ⟨he, hw, hk⟩ => ⟨he, fon hX hw hk⟩
              go_wp2_with fail
              refine wp_region_held_drew (S := FsZ w db pb mb lh sb nb S N V t σ7 (B2 + 43)) (by kernel_rfl) (hF.drew) ?_
              intro hHeld
              clear hF
              refine wpAnyH_take (i := 0) (v := ?_) (by simp only [List.getElem?_toArray, List.getElem?_cons_zero]; rfl) (by kernel_rfl) (by kernel_rfl) (by kernel_rfl) (by exact fun _ _ _ h => h) (Or.inl ⟨by rfl, ?_⟩) (by assumption) ?_; rotate_left; (focus (intro w hSw; go_simp; try with_reducible rfl)); simp only [Act.put, List.setIfInBounds_toArray, List.set_cons_zero, List.set_cons_succ]
              refine wpAnyH_take (i := 1) (v := stOf S) (by simp only [List.getElem?_toArray, List.getElem?_cons_zero, List.getElem?_cons_succ]; rfl) (by kernel_rfl) (by kernel_rfl) (by kernel_rfl) (by exact fun _ _ _ h => h) (yieldsIf_load_mid (by rfl) _ _ rfl sb 0 rfl (stCells S) _ (fun W hW => hW.s.cells) Try.underlying58 rfl (by rw [size_st, st_len, hsl])) (by assumption) ?_; simp only [Act.put, List.setIfInBounds_toArray, List.set_cons_zero, List.set_cons_succ]
              refine wpAnyH_take (i := 3) (v := ?_) (by simp only [List.getElem?_toArray, List.getElem?_cons_zero, List.getElem?_cons_succ]; rfl) (by kernel_rfl) (by kernel_rfl) (by kernel_rfl) (by exact fun _ _ _ h => h) (Or.inl ⟨by rfl, ?_⟩) (by assumption) ?_; rotate_left; (focus (intro w hSw; go_simp; try with_reducible rfl)); simp only [Act.put, List.setIfInBounds_toArray, List.set_cons_zero, List.set_cons_succ]
              refine wpAnyH_take (i := 4) (v := stOf N) (by simp only [List.getElem?_toArray, List.getElem?_cons_zero, List.getElem?_cons_succ]; rfl) (by kernel_rfl) (by kernel_rfl) (by kernel_rfl) (by exact fun _ _ _ h => h) (yieldsIf_load_mid (by rfl) _ _ rfl nb 0 rfl (stCells N) _ (fun W hW => hW.n.cells) Try.underlying58 rfl (by rw [size_st, st_len, hnl])) (by assumption) ?_; simp only [Act.put, List.setIfInBounds_toArray, List.set_cons_zero, List.set_cons_succ]
              refine wpAnyH_take (i := 6) (v := ?_) (by simp only [List.getElem?_toArray, List.getElem?_cons_zero, List.getElem?_cons_succ]; rfl) (by kernel_rfl) (by kernel_rfl) (by kernel_rfl) (by exact fun _ _ _ h => h) (Or.inl ⟨by rfl, ?_⟩) (by assumption) ?_; rotate_left; (focus (intro w hSw; go_simp; try with_reducible rfl)); simp only [Act.put, List.setIfInBounds_toArray, List.set_cons_zero, List.set_cons_succ]
              refine wpAnyH_ready (rs := [2]) (by kernel_rfl) (by simp) ?_
              refine AllReadyH.cons (by simp only [List.getElem?_toArray, List.getElem?_cons_zero, List.getElem?_cons_succ]; rfl) (fun K hK => ?_) AllReadyH.nil
              go_simp
              go_at_call 30
              refine (cH1 _ hHeld).mono ?_
              rintro e x2 ⟨rfl, hG2⟩
              refine hK.out _ _ (hG2) ?_
              clear hHeld hK
              intro hHeld
              (try simp only [Act.put, List.setIfInBounds_toArray, List.set_cons_zero, List.set_cons_succ])
              refine wpAnyH_ready (rs := [5]) (by kernel_rfl) (by simp) ?_
              refine AllReadyH.cons (by simp only [List.getElem?_toArray, List.getElem?_cons_zero, List.getElem?_cons_succ]; rfl) (fun K hK => ?_) AllReadyH.nil
              go_simp
              go_at_call 30
              refine (cH2 _ hHeld).mono ?_
              rintro e x5 ⟨rfl, hG5⟩
              refine hK.out _ _ (hG5) ?_
              clear hHeld hK
              intro hHeld
              (try simp only [Act.put, List.setIfInBounds_toArray, List.set_cons_zero, List.set_cons_succ])
              refine wpAnyH_ready (rs := [7]) (by kernel_rfl) (by simp) ?_
              refine AllReadyH.cons (by simp only [List.getElem?_toArray, List.getElem?_cons_zero, List.getElem?_cons_succ]; rfl) (fun K hK => ?_) AllReadyH.nil
              go_simp
              go_at_call 31
              refine (cS1 _ hHeld).mono ?_
              rintro e x7 ⟨rfl, hG7⟩
              refine hK.out _ _ (hG7) ?_
              clear hHeld hK
              intro hHeld
              (try simp only [Act.put, List.setIfInBounds_toArray, List.set_cons_zero, List.set_cons_succ])
              refine wpAnyH_take (i := 8) (v := ?_) (by simp only [List.getElem?_toArray, List.getElem?_cons_zero, List.getElem?_cons_succ]; rfl) (by kernel_rfl) (by kernel_rfl) (by kernel_rfl) (by exact fun _ _ _ h => h) (Or.inl ⟨by rfl, ?_⟩) (by assumption) ?_; rotate_left; (focus (intro w hSw; go_simp; try with_reducible rfl)); simp only [Act.put, List.setIfInBounds_toArray, List.set_cons_zero, List.set_cons_succ]
              refine wpAnyH_take (i := 9) (v := ?_) (by simp only [List.getElem?_toArray, List.getElem?_cons_zero, List.getElem?_cons_succ]; rfl) (by kernel_rfl) (by kernel_rfl) (by kernel_rfl) (by exact fun _ _ _ h => h) (Or.inl ⟨by rfl, ?_⟩) (by assumption) ?_; rotate_left; (focus (intro w hSw; go_simp; try with_reducible rfl)); simp only [Act.put, List.setIfInBounds_toArray, List.set_cons_zero, List.set_cons_succ]
              refine wpAnyH_take (i := 10) (v := ?_) (by simp only [List.getElem?_toArray, List.getElem?_cons_zero, List.getElem?_cons_succ]; rfl) (by kernel_rfl) (by kernel_rfl) (by kernel_rfl) (by exact fun _ _ _ h => h) (Or.inl ⟨by rfl, ?_⟩) (by assumption) ?_; rotate_left; (focus (intro w hSw; go_simp; try with_reducible rfl)); simp only [Act.put, List.setIfInBounds_toArray, List.set_cons_zero, List.set_cons_succ]
              refine wpAnyH_done (by kernel_rfl) ?_ _
              clear hG2 hG5 hG7 cH1 cH2 cS1 fon
              have hB3 : B2 + 43 ≤ 1000000 := by omega
              have hor : b1 = true ∨ (b1 = false ∧ b2 = true) := by cases b1 with | true => exact Or.inl rfl | false => exact Or.inr ⟨rfl, hb2.2 (hV.resolve_left fun h => by cases hb1.2 h)⟩
              have cX := crashAt hHeld.disk hB3 hZ hHeld.kept hf.p cap2
              rcases hor with rfl | ⟨rfl, rfl⟩
              · have hTT : Tells V S := hb1.1 rfl
                clear hb1 hb2 hV
                go_wp2_with fail
                refine cX.mono ?_
                rintro e w8 ⟨r8, rfl, p8, hp8, d8, k8⟩
                clear cX
                obtain ⟨V8, t8, ⟨rfl, rfl⟩, hp⟩ := sf7 p8 hp8
                have s8 := hHeld.s.kept k8 (by simp; omega)
                have n8 := hHeld.n.kept k8 (by simp; omega)
                have kk8 : Kept [] w w8 := (hHeld.kept.mono (by simp)).trans k8 |>.fewer (by simp; omega)
                have cO := reopen2 d8 (by decide) (by omega) ht0 (by omega) hp
                clear hHeld hp8 sf7
                go_wp2_with fail
                refine cO.mono ?_
                rintro e w9 ⟨lk, rfl, hlk, W9, _, k9⟩
                clear cO d8 hp
                have s9 := s8.kept k9 (by simp; omega)
                have n9 := n8.kept k9 (by simp; omega)
                have kk9 : Kept [] w w9 := (kk8.mono (by simp)).trans k9 |>.fewer (by simp; omega)
                have hkz8 := kk8.size
                clear s8 n8 kk8 k8 k9
                have cH := holds_any W9 S hsl
                have hsc := s9.cells
                go_wp2_with (first | (refine wpList_load_stg (by first | rfl | simp [Region.wanted, yielded]) _ rfl _ rfl _ hsl hsc ?_) | fail)
                refine cH.mono ?_
                rintro e wa ⟨b, rfl, hbb, Wa, ka⟩
                obtain rfl : b = true := hbb.2 hTT
                have kka : Kept [] w wa := (kk9.mono (by simp)).trans ka |>.fewer (by simp; omega)
                have cS := seq_works Wa
                clear cH hbb hsc s9 n9 kk9 ka
                go_wp2_with fail
                refine cS.mono ?_
                rintro e wb ⟨rfl, Wb, kb⟩
                have kkb : Kept [] w wb := (kka.mono (by simp)).trans kb |>.fewer (by simp; omega)
                have hbel : Below w.heap.size w wb := kkb.to_below (Nat.le_refl _) (by simp)
                clear cS Wa Wb kka kb kkb
                go_wp2
                go_ret
                exact ⟨rfl, hbel⟩
              · have hTT : Tells V N := hb2.1 rfl
                clear hb1 hb2 hV
                go_wp2_with fail
                refine cX.mono ?_
                rintro e w8 ⟨r8, rfl, p8, hp8, d8, k8⟩
                clear cX
                obtain ⟨V8, t8, ⟨rfl, rfl⟩, hp⟩ := sf7 p8 hp8
                have s8 := hHeld.s.kept k8 (by simp; omega)
                have n8 := hHeld.n.kept k8 (by simp; omega)
                have kk8 : Kept [] w w8 := (hHeld.kept.mono (by simp)).trans k8 |>.fewer (by simp; omega)
                have cO := reopen2 d8 (by decide) (by omega) ht0 (by omega) hp
                clear hHeld hp8 sf7
                go_wp2_with fail
                refine cO.mono ?_
                rintro e w9 ⟨lk, rfl, hlk, W9, _, k9⟩
                clear cO d8 hp
                have s9 := s8.kept k9 (by simp; omega)
                have n9 := n8.kept k9 (by simp; omega)
                have kk9 : Kept [] w w9 := (kk8.mono (by simp)).trans k9 |>.fewer (by simp; omega)
                have hkz8 := kk8.size
                clear s8 n8 kk8 k8 k9
                have cH := holds_any W9 N hnl
                have hsc := n9.cells
                go_wp2_with (first | (refine wpList_load_stg (by first | rfl | simp [Region.wanted, yielded]) _ rfl _ rfl _ hnl hsc ?_) | fail)
                refine cH.mono ?_
                rintro e wa ⟨b, rfl, hbb, Wa, ka⟩
                obtain rfl : b = true := hbb.2 hTT
                have kka : Kept [] w wa := (kk9.mono (by simp)).trans ka |>.fewer (by simp; omega)
                have cS := seq_works Wa
                clear cH hbb hsc s9 n9 kk9 ka
                go_wp2_with fail
                refine cS.mono ?_
                rintro e wb ⟨rfl, Wb, kb⟩
                have kkb : Kept [] w wb := (kka.mono (by simp)).trans kb |>.fewer (by simp; omega)
                have hbel : Below w.heap.size w wb := kkb.to_below (Nat.le_refl _) (by simp)
                clear cS Wa Wb kka kb kkb
                go_wp2
                go_ret
                exact ⟨rfl, hbel⟩
end Go.Proofs.Ytgjnlocokkjejaa
