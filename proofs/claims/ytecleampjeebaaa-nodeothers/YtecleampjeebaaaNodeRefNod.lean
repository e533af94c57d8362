/-
  Parse of nodes: the document's own (donjonref10). Written by mk_nnod.py.
-/
import Derived.Test.YtecleampjeebaaaNodeNst
import Derived.Test.YtecleampjeebaaaWhole
import Derived.Deep.CutBlock
namespace Go.Proofs.Ytecleampjeebaaa
open Go.RowKit
set_option linter.unusedSimpArgs false
set_option linter.unusedVariables false

set_option maxRecDepth 20000 in
set_option maxHeartbeats 16000000 in
theorem rnod_any (a : Option Addr) (n cap : Nat) (l : List UInt8) (hn : n < 1000000) (hnc : n ≤ cap) (w : World) (hb : BytesAt w a n l) :
    Calls Try.prog 16 #[.slice a n cap] w fun e w' => ∃ va vw, e = .returned (.tuple #[(nodP l).vv va vw, .int .i64 (nodE l)]) ∧ OwnG w' w.heap.size va (nodP l).acl ∧ OwnW w' w.heap.size vw (nodP l).words ∧ Below w.heap.size w w' := by
  have h0 : PSt w ((w.alloc (.cells #[.string ⟨#[]⟩, .bool false, .int .i64 0, .int .i64 0, .int .i64 0, .int .i64 0, .slice none 0 0, .int .i64 0, .int .i64 0, .int .i64 0, .int .i64 0, .slice none 0 0, .int .i64 0, .int .i64 0, .int .i64 0, .int .i64 0] 29)).alloc (.cells #[.slice a n cap, .int .i64 0, .int .i64 0] 77)) a n cap l (nodR0 l) nzero := pst_start hn hnc hb #[.string ⟨#[]⟩, .bool false, .int .i64 0, .int .i64 0, .int .i64 0, .int .i64 0, .slice none 0 0, .int .i64 0, .int .i64 0, .int .i64 0, .int .i64 0, .slice none 0 0, .int .i64 0, .int .i64 0, .int .i64 0, .int .i64 0] _ _
  have kT := fun r W h => rtextR_any (w.heap.size + 1) a n cap l r W h
  have kU := fun r W h => ru8_any (w.heap.size + 1) a n cap l r W h
  have kL := fun r W h => rlabR_any (w.heap.size + 1) a n cap l r W h
  have kN := fun r W h => rnum8_any (w.heap.size + 1) a n cap l r W h
  have kE := fun r W h => rend_any (w.heap.size + 1) a n cap l r W h
  obtain ⟨Pm, hPm⟩ : ∃ Pm, nodP l = Pm := ⟨_, rfl⟩
  obtain ⟨E, hE⟩ : ∃ E, nodE l = E := ⟨_, rfl⟩
  rw [hPm, hE]
  have hPm : Aside (nodP l = Pm) := hPm
  have hE : Aside (nodE l = E) := hE
  go_enter Try.func16, Try.ntmps16
  go_wp2_with fail
  generalize (w.alloc (.cells #[.string ⟨#[]⟩, .bool false, .int .i64 0, .int .i64 0, .int .i64 0, .int .i64 0, .slice none 0 0, .int .i64 0, .int .i64 0, .int .i64 0, .int .i64 0, .slice none 0 0, .int .i64 0, .int .i64 0, .int .i64 0, .int .i64 0] 29)).alloc (.cells #[.slice a n cap, .int .i64 0, .int .i64 0] 77) = W0 at *
  refine (kT _ _ h0.rd).mono ?_
  rintro e W1 ⟨rfl, hR, hT⟩
  have hp1 := h0.call hR hT
  obtain ⟨x0, hx0⟩ : ∃ x0, textV l (nodR0 l) = x0 := ⟨_, rfl⟩
  rw [hx0]
  have hx0 : Aside (textV l (nodR0 l) = x0) := hx0
  clear h0 hR hT hb
  have h1 : NSt w (W1.alloc (.cells #[.string x0, .bool false, .int .i64 0, .int .i64 0, .int .i64 0, .int .i64 0, .slice none 0 0, .int .i64 0, .int .i64 0, .int .i64 0, .int .i64 0, .slice none 0 0, .int .i64 0, .int .i64 0, .int .i64 0, .int .i64 0] 29)) a n cap l (nodR1 l) W1.heap.size [.string x0, .bool false, .int .i64 0, .int .i64 0, .int .i64 0, .int .i64 0, .slice none 0 0, .int .i64 0, .int .i64 0, .int .i64 0, .int .i64 0, .slice none 0 0, .int .i64 0, .int .i64 0, .int .i64 0, .int .i64 0] := nst_start hp1 x0 _ #[.string x0, .bool false, .int .i64 0, .int .i64 0, .int .i64 0, .int .i64 0, .slice none 0 0, .int .i64 0, .int .i64 0, .int .i64 0, .int .i64 0, .slice none 0 0, .int .i64 0, .int .i64 0, .int .i64 0, .int .i64 0]
  clear hp1
  go_wp2_with fail
  generalize W1.alloc (.cells #[.string x0, .bool false, .int .i64 0, .int .i64 0, .int .i64 0, .int .i64 0, .slice none 0 0, .int .i64 0, .int .i64 0, .int .i64 0, .int .i64 0, .slice none 0 0, .int .i64 0, .int .i64 0, .int .i64 0, .int .i64 0] 29) = S1 at *
  generalize W1.heap.size = p at *
  refine (kU _ _ h1.ps.rd).mono ?_
  rintro e W2 ⟨rfl, hR, hT⟩
  have h2 := h1.call hR hT
  clear h1 hR hT
  obtain ⟨d, hd⟩ : ∃ d, u8V l (nodR1 l) = d := ⟨_, rfl⟩
  have hd1 := u8V_lt l (nodR1 l)
  have hr2 : Aside (nodR2 l = if (u8R l (nodR1 l)).err = 0 ∧ 1 < d then ⟨(u8R l (nodR1 l)).p, 11⟩ else u8R l (nodR1 l)) := by rw [← hd]; exact rfl
  rw [hd] at hd1 ⊢
  have hd : Aside (u8V l (nodR1 l) = d) := hd
  obtain ⟨r2, hr2e⟩ : ∃ r2, u8R l (nodR1 l) = r2 := ⟨_, rfl⟩
  rw [hr2e] at h2 hr2
  clear hr2e
  have z2 := h2.ps.rd.c2
  have y2 := h2.ps.rd.f2
  obtain ⟨b, hbb⟩ : ∃ b : Bool, (r2.err == 0 && decide (1 < d)) = b := ⟨_, rfl⟩
  go_upto_region 4 with fail
  go_cut [27] from 11 (fun s27 wc => s27 = .bool b ∧ wc = W2)
  case first =>
    cases he : (r2.err == 0)
    · go_wp2_with fail
      go_meet
      exact ⟨by rw [← hbb, he]; rfl, rfl⟩
    · have hbb2 : decide (1 < d) = b := by rw [← hbb, he]; rfl
      go_wp2_with fail
      go_meet
      refine ⟨?_, rfl⟩
      rw [← hbb2]
      simp
      omega
  case rest =>
  obtain ⟨rfl, rfl⟩ := hcut
  have hr2' : Aside (nodR2 l = if b = true then ⟨r2.p, 11⟩ else r2) := by
    have := hr2.out
    rw [← hbb]
    rw [this]
    congr 1
    simp
  clear hr2 hbb
  go_upto_if 27 with fail
  go_cut [] from 11 (fun wc => NSt w wc a n cap l (nodR2 l) p [.string x0, .bool false, .int .i64 0, .int .i64 0, .int .i64 0, .int .i64 0, .slice none 0 0, .int .i64 0, .int .i64 0, .int .i64 0, .int .i64 0, .slice none 0 0, .int .i64 0, .int .i64 0, .int .i64 0, .int .i64 0])
  case first =>
    cases b
    · go_wp2_with fail
      go_meet
      rw [hr2'.out]
      exact h2
    · go_wp2_with fail
      go_meet
      rw [hr2'.out]
      exact h2.err 11
  case rest =>
  clear h2 z2 y2 hr2' hd1
  rename_i wc
  obtain ⟨db, hdb⟩ : ∃ db, ((d : Int) == 1) = db := ⟨_, rfl⟩
  have hdx : Aside ((u8V l (nodR1 l) == 1) = db) := by
    have := hd.out
    rw [this, ← hdb]
    by_cases h1 : d = 1
    · subst h1
      rfl
    · have e1 : (d == 1) = false := by simpa using h1
      have e2 : ((d : Int) == 1) = false := by simp; omega
      rw [e1, e2]
      exact rfl
  have q1 := hcut.bk 1 _ rfl
  have h3 : NSt w (wc.setCell ⟨p, 1, none⟩ (.bool db)) a n cap l (nodR2 l) p [.string x0, .bool db, .int .i64 0, .int .i64 0, .int .i64 0, .int .i64 0, .slice none 0 0, .int .i64 0, .int .i64 0, .int .i64 0, .int .i64 0, .slice none 0 0, .int .i64 0, .int .i64 0, .int .i64 0, .int .i64 0] := hcut.set 1 _ (by simp)
  clear hcut
  go_wp2_with fail
  clear q1
  generalize wc.setCell ⟨p, 1, none⟩ (.bool db) = S3 at *
  refine (kL _ _ h3.ps.rd).mono ?_
  rintro e W ⟨rfl, hR, hT⟩
  replace h3 : NSt w W a n cap l (nodR3 l) p [.string x0, .bool db, .int .i64 0, .int .i64 0, .int .i64 0, .int .i64 0, .slice none 0 0, .int .i64 0, .int .i64 0, .int .i64 0, .int .i64 0, .slice none 0 0, .int .i64 0, .int .i64 0, .int .i64 0, .int .i64 0] := h3.call hR hT
  clear hR hT
  obtain ⟨x1, hx1⟩ : ∃ x, labV l (nodR2 l) = x := ⟨_, rfl⟩
  rw [hx1]
  have hx1 : Aside (labV l (nodR2 l) = x1) := hx1
  have q0 := h3.bk 2 _ rfl
  have q1 := h3.bk 3 _ rfl
  have q2 := h3.bk 4 _ rfl
  have q3 := h3.bk 5 _ rfl
  have h4 : NSt w ((((W.setCell ⟨p, 2, none⟩ (.int .i64 x1.s)).setCell ⟨p, 3, none⟩ (.int .i64 x1.c)).setCell ⟨p, 4, none⟩ (.int .i64 x1.i)).setCell ⟨p, 5, none⟩ (.int .i64 x1.k)) a n cap l (nodR3 l) p [.string x0, .bool db, .int .i64 x1.s, .int .i64 x1.c, .int .i64 x1.i, .int .i64 x1.k, .slice none 0 0, .int .i64 0, .int .i64 0, .int .i64 0, .int .i64 0, .slice none 0 0, .int .i64 0, .int .i64 0, .int .i64 0, .int .i64 0] := ((((h3.set 2 (.int .i64 x1.s) (by simp)).set 3 (.int .i64 x1.c) (by simp)).set 4 (.int .i64 x1.i) (by simp)).set 5 (.int .i64 x1.k) (by simp))
  clear h3
  go_wp2_with fail
  clear q0 q1 q2 q3
  generalize ((((W.setCell ⟨p, 2, none⟩ (.int .i64 x1.s)).setCell ⟨p, 3, none⟩ (.int .i64 x1.c)).setCell ⟨p, 4, none⟩ (.int .i64 x1.i)).setCell ⟨p, 5, none⟩ (.int .i64 x1.k)) = V1 at *
  clear W
  refine (kL _ _ h4.ps.rd).mono ?_
  rintro e W ⟨rfl, hR, hT⟩
  replace h4 : NSt w W a n cap l (nodR4 l) p [.string x0, .bool db, .int .i64 x1.s, .int .i64 x1.c, .int .i64 x1.i, .int .i64 x1.k, .slice none 0 0, .int .i64 0, .int .i64 0, .int .i64 0, .int .i64 0, .slice none 0 0, .int .i64 0, .int .i64 0, .int .i64 0, .int .i64 0] := h4.call hR hT
  clear hR hT
  obtain ⟨x2, hx2⟩ : ∃ x, labV l (nodR3 l) = x := ⟨_, rfl⟩
  rw [hx2]
  have hx2 : Aside (labV l (nodR3 l) = x2) := hx2
  have q0 := h4.bk 12 _ rfl
  have q1 := h4.bk 13 _ rfl
  have q2 := h4.bk 14 _ rfl
  have q3 := h4.bk 15 _ rfl
  have h5 : NSt w ((((W.setCell ⟨p, 12, none⟩ (.int .i64 x2.s)).setCell ⟨p, 13, none⟩ (.int .i64 x2.c)).setCell ⟨p, 14, none⟩ (.int .i64 x2.i)).setCell ⟨p, 15, none⟩ (.int .i64 x2.k)) a n cap l (nodR4 l) p [.string x0, .bool db, .int .i64 x1.s, .int .i64 x1.c, .int .i64 x1.i, .int .i64 x1.k, .slice none 0 0, .int .i64 0, .int .i64 0, .int .i64 0, .int .i64 0, .slice none 0 0, .int .i64 x2.s, .int .i64 x2.c, .int .i64 x2.i, .int .i64 x2.k] := ((((h4.set 12 (.int .i64 x2.s) (by simp)).set 13 (.int .i64 x2.c) (by simp)).set 14 (.int .i64 x2.i) (by simp)).set 15 (.int .i64 x2.k) (by simp))
  clear h4
  go_wp2_with fail
  clear q0 q1 q2 q3
  generalize ((((W.setCell ⟨p, 12, none⟩ (.int .i64 x2.s)).setCell ⟨p, 13, none⟩ (.int .i64 x2.c)).setCell ⟨p, 14, none⟩ (.int .i64 x2.i)).setCell ⟨p, 15, none⟩ (.int .i64 x2.k)) = V2 at *
  clear W
  refine (kU _ _ h5.ps.rd).mono ?_
  rintro e W ⟨rfl, hR, hT⟩
  replace h5 : NSt w W a n cap l (nodR5 l) p [.string x0, .bool db, .int .i64 x1.s, .int .i64 x1.c, .int .i64 x1.i, .int .i64 x1.k, .slice none 0 0, .int .i64 0, .int .i64 0, .int .i64 0, .int .i64 0, .slice none 0 0, .int .i64 x2.s, .int .i64 x2.c, .int .i64 x2.i, .int .i64 x2.k] := h5.call hR hT
  clear hR hT
  obtain ⟨K, hK0⟩ : ∃ K, u8V l (nodR4 l) = K := ⟨_, rfl⟩
  have hKl := u8V_lt l (nodR4 l)
  rw [hK0] at hKl ⊢
  have hG0 : Aside (nodGs l = grT l (nodR5 l) K) := by rw [← hK0]; exact rfl
  clear hK0
  have hr6 : Aside (nodR6 l = (grT l (nodR5 l) K).2) := by
    unfold nodR6
    rw [hG0.out]
    exact rfl
  obtain ⟨r5, hr5⟩ : ∃ r5, nodR5 l = r5 := ⟨_, rfl⟩
  rw [hr5] at h5 hG0 hr6
  clear hr5
  go_upto_block 0 with fail
  go_cut [] from 11 (fun wc => ∃ va, NSt w wc a n cap l (nodR6 l) p [.string x0, .bool db, .int .i64 x1.s, .int .i64 x1.c, .int .i64 x1.i, .int .i64 x1.k, va, .int .i64 0, .int .i64 0, .int .i64 0, .int .i64 0, .slice none 0 0, .int .i64 x2.s, .int .i64 x2.c, .int .i64 x2.i, .int .i64 x2.k] ∧ OwnG wc (p + 1) va (nodGs l).1)
  case first =>
    go_wp2_with fail
    go_loopw [8] (fun t8 wr => ∃ i : Nat, i ≤ K ∧ t8 = .int .i64 (i : Int) ∧ ∃ va, NSt w wr a n cap l (grT l r5 i).2 p [.string x0, .bool db, .int .i64 x1.s, .int .i64 x1.c, .int .i64 x1.i, .int .i64 x1.k, va, .int .i64 0, .int .i64 0, .int .i64 0, .int .i64 0, .slice none 0 0, .int .i64 x2.s, .int .i64 x2.c, .int .i64 x2.i, .int .i64 x2.k] ∧ OwnG wr (p + 1) va (grT l r5 i).1 ∧ (grT l r5 i).1.length ≤ i) (fun t8 _ => K - (Go.RowKit.intOf t8).toNat)
    case atStart => exact ⟨0, by omega, rfl, _, h5, OwnR.nil _ _ _ _ _, Nat.le_refl _⟩
    case round =>
      obtain ⟨i, hi, rfl, va, h, hO, hgl⟩ := hrel
      have z2 := h.ps.rd.c2
      by_cases hlt : i < K
      · have hi1 : (i : Int) < (K : Int) := by omega
        cases he : ((grT l r5 i).2.err == 0)
        · have he' : (grT l r5 i).2.err ≠ 0 := by simpa using he
          have hst := grT_stop he' (K - i)
          rw [show i + (K - i) = K by omega] at hst
          have hst : Aside (grT l r5 K = grT l r5 i) := hst
          clear he'
          go_wp2_with fail
          go_meet
          refine ⟨va, ?_, ?_⟩
          · rw [hr6.out, hst.out]
            exact h
          · rw [hG0.out, hst.out]
            exact hO
        · have he' : (grT l r5 i).2.err = 0 := by simpa using he
          have hnx : Aside (grT l r5 (i + 1) = ((grT l r5 i).1 ++ [⟨textV l (grT l r5 i).2, ((u8V l (textR l (grT l r5 i).2) : Nat) : Int)⟩], u8R l (textR l (grT l r5 i).2))) := by
            show grT l r5 (i + 1) = _
            rw [grT, if_pos he']
          clear he'
          obtain ⟨gs, hgs⟩ : ∃ gs, (grT l r5 i).1 = gs := ⟨_, rfl⟩
          obtain ⟨rr, hrr⟩ : ∃ rr, (grT l r5 i).2 = rr := ⟨_, rfl⟩
          rw [hgs, hrr] at hnx
          rw [hgs] at hO hgl
          rw [hrr] at h he z2
          clear hgs hrr

          go_wp2_with fail
          clear z2 he
          refine (kT _ _ h.ps.rd).mono ?_
          rintro e U1 ⟨rfl, hR, hT⟩
          replace h := h.call hR hT
          replace hO := hO.rest hT (by have := h.hp; omega)
          clear hR hT
          obtain ⟨u, hu⟩ : ∃ u, textV l rr = u := ⟨_, rfl⟩
          obtain ⟨rr1, hrr1⟩ : ∃ rr1, textR l rr = rr1 := ⟨_, rfl⟩
          rw [hu, hrr1] at hnx
          rw [hu]
          rw [hrr1] at h
          clear hu hrr1
          have hb := blk_alloc U1 #[.string u, .int .i64 0] 60
          have hpl := h.lt
          have hqp := h.hp
          have hB1 := alloc_below U1 (.cells #[.string u, .int .i64 0] 60)
          have hob : va.ownBlock ≠ some U1.heap.size := fun hk => by
            have := (hO.lt hk).2
            omega
          replace h := h.past h.lt hB1
          replace hO := hO.below hB1
          clear hB1
          go_wp2_with fail
          generalize U1.alloc (.cells #[.string u, .int .i64 0] 60) = V1 at *
          generalize U1.heap.size = q at *
          refine (kU _ _ h.ps.rd).mono ?_
          rintro e U2 ⟨rfl, hR, hT⟩
          replace h := h.call hR hT
          replace hO := hO.rest hT (by omega)
          replace hb := hb.same (hT.block q (hb.lt rfl) (fun z => by injection z; omega))
          clear hR hT
          obtain ⟨m, hm⟩ : ∃ m, u8V l rr1 = m := ⟨_, rfl⟩
          rw [hm] at hnx ⊢
          clear hm
          have q1 := hb 1 _ rfl
          replace h := h.past hpl ((Below.refl q U2).setCell (p := ⟨q, 1, none⟩) (Nat.le_refl _) (.int .i64 (m : Int)))
          replace hO := hO.set (j := 1) (u := .int .i64 (m : Int)) hob
          replace hb : Blk (U2.setCell ⟨q, 1, none⟩ (.int .i64 (m : Int))) q [.string u, .int .i64 (m : Int)] := hb.set 1 _ (by simp)
          go_upto_region 15 with fail
          clear q1
          generalize U2.setCell ⟨q, 1, none⟩ (.int .i64 (m : Int)) = V2 at *
          have q0 := (hb 0 _ rfl).1
          have q1 := (hb 1 _ rfl).1
          have q6 := (h.bk 6 _ rfl).1
          have hpz := h.lt
          obtain ⟨va', V3, hap, hO3, hG3⟩ := hO.push gr_ok (by omega) ⟨u, (m : Int)⟩ #[.string u, .int .i64 (m : Int)] rfl 60 (by omega)
          have hB3 := hO.grew_below (by omega) hG3
          obtain ⟨aa', ca', hva', -⟩ := hO3.slice gr_ok.len
          obtain ⟨L', hL'⟩ : ∃ L', (gs ++ [(⟨u, (m : Int)⟩ : Gr)]).length = L' := ⟨_, rfl⟩
          rw [hL'] at hva'
          clear hL'
          subst hva'
          replace h := h.past (Nat.lt_succ_self p) hB3
          have z6 := h.bk 6 _ rfl
          have h' := h.set 6 (.slice aa' L' ca') (by simp)
          have hO' : OwnG (V3.setCell ⟨p, 6, none⟩ (.slice aa' L' ca')) (p + 1) (.slice aa' L' ca') (gs ++ [⟨u, (m : Int)⟩]) := hO3.set (fun hk => by have := (hO3.lt hk).1; omega)
          clear hO hG3 hB3 h hb hO3
          go_wp2_with (first | (refine wpList_append rfl _ _ rfl rfl rfl rfl hap ?_) | fail)
          refine ⟨⟨i + 1, by omega, by simp, .slice aa' L' ca', ?_, ?_, ?_⟩, by simp [Go.RowKit.intOf]; omega⟩
          · rw [hnx.out]
            exact h'
          · rw [hnx.out]
            exact hO'
          · rw [hnx.out]
            simp
            omega
      · obtain rfl : i = K := by omega
        go_wp2_with fail
        go_meet
        refine ⟨va, ?_, ?_⟩
        · rw [hr6.out]
          exact h
        · rw [hG0.out]
          exact hO
  case rest =>
  clear h5 hKl
  rename_i wc
  obtain ⟨va, h6, hO⟩ := hcut
  clear hr6 hG0
  go_wp2_with fail
  refine (kU _ _ h6.ps.rd).mono ?_
  rintro e W ⟨rfl, hR, hT⟩
  replace hO := hO.rest hT (by have := h6.hp; omega)
  replace h6 : NSt w W a n cap l (nodR7 l) p [.string x0, .bool db, .int .i64 x1.s, .int .i64 x1.c, .int .i64 x1.i, .int .i64 x1.k, va, .int .i64 0, .int .i64 0, .int .i64 0, .int .i64 0, .slice none 0 0, .int .i64 x2.s, .int .i64 x2.c, .int .i64 x2.i, .int .i64 x2.k] := h6.call hR hT
  clear hR hT
  obtain ⟨x3, hx3⟩ : ∃ x, u8V l (nodR6 l) = x := ⟨_, rfl⟩
  rw [hx3]
  have hx3 : Aside (u8V l (nodR6 l) = x3) := hx3
  have q0 := h6.bk 7 _ rfl
  have h7 : NSt w (W.setCell ⟨p, 7, none⟩ (.int .i64 (x3 : Int))) a n cap l (nodR7 l) p [.string x0, .bool db, .int .i64 x1.s, .int .i64 x1.c, .int .i64 x1.i, .int .i64 x1.k, va, .int .i64 (x3 : Int), .int .i64 0, .int .i64 0, .int .i64 0, .slice none 0 0, .int .i64 x2.s, .int .i64 x2.c, .int .i64 x2.i, .int .i64 x2.k] := h6.set 7 _ (by simp)
  replace hO := hO.set (g := p) (j := 7) (u := .int .i64 (x3 : Int)) (fun hk => by have := (hO.lt hk).1; omega)
  clear h6
  go_wp2_with fail
  clear q0
  generalize (W.setCell ⟨p, 7, none⟩ (.int .i64 (x3 : Int))) = V3 at *
  clear W
  refine (kU _ _ h7.ps.rd).mono ?_
  rintro e W ⟨rfl, hR, hT⟩
  replace hO := hO.rest hT (by have := h7.hp; omega)
  replace h7 : NSt w W a n cap l (nodR8 l) p [.string x0, .bool db, .int .i64 x1.s, .int .i64 x1.c, .int .i64 x1.i, .int .i64 x1.k, va, .int .i64 (x3 : Int), .int .i64 0, .int .i64 0, .int .i64 0, .slice none 0 0, .int .i64 x2.s, .int .i64 x2.c, .int .i64 x2.i, .int .i64 x2.k] := h7.call hR hT
  clear hR hT
  obtain ⟨x4, hx4⟩ : ∃ x, u8V l (nodR7 l) = x := ⟨_, rfl⟩
  rw [hx4]
  have hx4 : Aside (u8V l (nodR7 l) = x4) := hx4
  have q0 := h7.bk 8 _ rfl
  have h8 : NSt w (W.setCell ⟨p, 8, none⟩ (.int .i64 (x4 : Int))) a n cap l (nodR8 l) p [.string x0, .bool db, .int .i64 x1.s, .int .i64 x1.c, .int .i64 x1.i, .int .i64 x1.k, va, .int .i64 (x3 : Int), .int .i64 (x4 : Int), .int .i64 0, .int .i64 0, .slice none 0 0, .int .i64 x2.s, .int .i64 x2.c, .int .i64 x2.i, .int .i64 x2.k] := h7.set 8 _ (by simp)
  replace hO := hO.set (g := p) (j := 8) (u := .int .i64 (x4 : Int)) (fun hk => by have := (hO.lt hk).1; omega)
  clear h7
  go_wp2_with fail
  clear q0
  generalize (W.setCell ⟨p, 8, none⟩ (.int .i64 (x4 : Int))) = V4 at *
  clear W
  refine (kU _ _ h8.ps.rd).mono ?_
  rintro e W ⟨rfl, hR, hT⟩
  replace hO := hO.rest hT (by have := h8.hp; omega)
  replace h8 : NSt w W a n cap l (nodR9 l) p [.string x0, .bool db, .int .i64 x1.s, .int .i64 x1.c, .int .i64 x1.i, .int .i64 x1.k, va, .int .i64 (x3 : Int), .int .i64 (x4 : Int), .int .i64 0, .int .i64 0, .slice none 0 0, .int .i64 x2.s, .int .i64 x2.c, .int .i64 x2.i, .int .i64 x2.k] := h8.call hR hT
  clear hR hT
  obtain ⟨x5, hx5⟩ : ∃ x, u8V l (nodR8 l) = x := ⟨_, rfl⟩
  rw [hx5]
  have hx5 : Aside (u8V l (nodR8 l) = x5) := hx5
  have q0 := h8.bk 9 _ rfl
  have h9 : NSt w (W.setCell ⟨p, 9, none⟩ (.int .i64 (x5 : Int))) a n cap l (nodR9 l) p [.string x0, .bool db, .int .i64 x1.s, .int .i64 x1.c, .int .i64 x1.i, .int .i64 x1.k, va, .int .i64 (x3 : Int), .int .i64 (x4 : Int), .int .i64 (x5 : Int), .int .i64 0, .slice none 0 0, .int .i64 x2.s, .int .i64 x2.c, .int .i64 x2.i, .int .i64 x2.k] := h8.set 9 _ (by simp)
  replace hO := hO.set (g := p) (j := 9) (u := .int .i64 (x5 : Int)) (fun hk => by have := (hO.lt hk).1; omega)
  clear h8
  go_wp2_with fail
  clear q0
  generalize (W.setCell ⟨p, 9, none⟩ (.int .i64 (x5 : Int))) = V5 at *
  clear W
  refine (kU _ _ h9.ps.rd).mono ?_
  rintro e W ⟨rfl, hR, hT⟩
  replace hO := hO.rest hT (by have := h9.hp; omega)
  replace h9 : NSt w W a n cap l (nodR10 l) p [.string x0, .bool db, .int .i64 x1.s, .int .i64 x1.c, .int .i64 x1.i, .int .i64 x1.k, va, .int .i64 (x3 : Int), .int .i64 (x4 : Int), .int .i64 (x5 : Int), .int .i64 0, .slice none 0 0, .int .i64 x2.s, .int .i64 x2.c, .int .i64 x2.i, .int .i64 x2.k] := h9.call hR hT
  clear hR hT
  obtain ⟨x6, hx6⟩ : ∃ x, u8V l (nodR9 l) = x := ⟨_, rfl⟩
  rw [hx6]
  have hx6 : Aside (u8V l (nodR9 l) = x6) := hx6
  have q0 := h9.bk 10 _ rfl
  have h10 : NSt w (W.setCell ⟨p, 10, none⟩ (.int .i64 (x6 : Int))) a n cap l (nodR10 l) p [.string x0, .bool db, .int .i64 x1.s, .int .i64 x1.c, .int .i64 x1.i, .int .i64 x1.k, va, .int .i64 (x3 : Int), .int .i64 (x4 : Int), .int .i64 (x5 : Int), .int .i64 (x6 : Int), .slice none 0 0, .int .i64 x2.s, .int .i64 x2.c, .int .i64 x2.i, .int .i64 x2.k] := h9.set 10 _ (by simp)
  replace hO := hO.set (g := p) (j := 10) (u := .int .i64 (x6 : Int)) (fun hk => by have := (hO.lt hk).1; omega)
  clear h9
  go_wp2_with fail
  clear q0
  generalize (W.setCell ⟨p, 10, none⟩ (.int .i64 (x6 : Int))) = V6 at *
  clear W
  refine (kU _ _ h10.ps.rd).mono ?_
  rintro e W ⟨rfl, hR, hT⟩
  replace hO := hO.rest hT (by have := h10.hp; omega)
  replace h10 : NSt w W a n cap l (nodR11 l) p [.string x0, .bool db, .int .i64 x1.s, .int .i64 x1.c, .int .i64 x1.i, .int .i64 x1.k, va, .int .i64 (x3 : Int), .int .i64 (x4 : Int), .int .i64 (x5 : Int), .int .i64 (x6 : Int), .slice none 0 0, .int .i64 x2.s, .int .i64 x2.c, .int .i64 x2.i, .int .i64 x2.k] := h10.call hR hT
  clear hR hT
  obtain ⟨K, hK0⟩ : ∃ K, u8V l (nodR10 l) = K := ⟨_, rfl⟩
  have hKl := u8V_lt l (nodR10 l)
  rw [hK0] at hKl ⊢
  have hG0 : Aside (nodWs l = wdT l (nodR11 l) K) := by rw [← hK0]; exact rfl
  clear hK0
  have hr12 : Aside (nodR12 l = (wdT l (nodR11 l) K).2) := by
    unfold nodR12
    rw [hG0.out]
    exact rfl
  obtain ⟨r11, hr11⟩ : ∃ r11, nodR11 l = r11 := ⟨_, rfl⟩
  rw [hr11] at h10 hG0 hr12
  clear hr11
  obtain ⟨B, hB⟩ : ∃ B, W.heap.size = B := ⟨_, rfl⟩
  have hpB : p < B := by rw [← hB]; exact h10.lt
  have hvB : ∀ k, va.ownBlock = some k → k < B := fun k hk => by rw [← hB]; exact (hO.lt hk).2
  have hBW : B ≤ W.heap.size := by omega
  clear hB
  go_upto_block 2 with fail
  go_cut [] from 11 (fun wc => ∃ vw, NSt w wc a n cap l (nodR12 l) p [.string x0, .bool db, .int .i64 x1.s, .int .i64 x1.c, .int .i64 x1.i, .int .i64 x1.k, va, .int .i64 (x3 : Int), .int .i64 (x4 : Int), .int .i64 (x5 : Int), .int .i64 (x6 : Int), vw, .int .i64 x2.s, .int .i64 x2.c, .int .i64 x2.i, .int .i64 x2.k] ∧ OwnG wc (p + 1) va (nodGs l).1 ∧ OwnW wc B vw (nodWs l).1)
  case first =>
    go_wp2_with fail
    go_loopw [10] (fun t10 wr => ∃ i : Nat, i ≤ K ∧ t10 = .int .i64 (i : Int) ∧ ∃ vw, NSt w wr a n cap l (wdT l r11 i).2 p [.string x0, .bool db, .int .i64 x1.s, .int .i64 x1.c, .int .i64 x1.i, .int .i64 x1.k, va, .int .i64 (x3 : Int), .int .i64 (x4 : Int), .int .i64 (x5 : Int), .int .i64 (x6 : Int), vw, .int .i64 x2.s, .int .i64 x2.c, .int .i64 x2.i, .int .i64 x2.k] ∧ OwnG wr (p + 1) va (nodGs l).1 ∧ OwnW wr B vw (wdT l r11 i).1 ∧ (wdT l r11 i).1.length ≤ i ∧ B ≤ wr.heap.size) (fun t10 _ => K - (Go.RowKit.intOf t10).toNat)
    case atStart => exact ⟨0, by omega, rfl, _, h10, hO, OwnR.nil _ _ _ _ _, Nat.le_refl _, hBW⟩
    case round =>
      obtain ⟨i, hi, rfl, vw, h, hO, hP, hgl, hBr⟩ := hrel
      have z2 := h.ps.rd.c2
      by_cases hlt : i < K
      · have hi1 : (i : Int) < (K : Int) := by omega
        cases he : ((wdT l r11 i).2.err == 0)
        · have he' : (wdT l r11 i).2.err ≠ 0 := by simpa using he
          have hst := wdT_stop he' (K - i)
          rw [show i + (K - i) = K by omega] at hst
          have hst : Aside (wdT l r11 K = wdT l r11 i) := hst
          clear he'
          go_wp2_with fail
          go_meet
          refine ⟨vw, ?_, hO, ?_⟩
          · rw [hr12.out, hst.out]
            exact h
          · rw [hG0.out, hst.out]
            exact hP
        · have he' : (wdT l r11 i).2.err = 0 := by simpa using he
          have hnx : Aside (wdT l r11 (i + 1) = ((wdT l r11 i).1 ++ [numV l (wdT l r11 i).2], numR8 l (wdT l r11 i).2)) := by
            show wdT l r11 (i + 1) = _
            rw [wdT, if_pos he']
          clear he'
          obtain ⟨gs, hgs⟩ : ∃ gs, (wdT l r11 i).1 = gs := ⟨_, rfl⟩
          obtain ⟨rr, hrr⟩ : ∃ rr, (wdT l r11 i).2 = rr := ⟨_, rfl⟩
          rw [hgs, hrr] at hnx
          rw [hgs] at hP hgl
          rw [hrr] at h he z2
          clear hgs hrr
          have kNr := kN rr
          obtain ⟨m, hm⟩ : ∃ m, numV l rr = m := ⟨_, rfl⟩
          rw [hm] at hnx
          simp only [hm] at kNr
          clear hm

          go_upto_region 24 with fail
          clear z2 he
          have h0 := h.drew
          have hO0 : OwnG wr.drew (p + 1) va (nodGs l).1 := hO.keep fun _ _ => rfl
          have hP0 : OwnW wr.drew B vw gs := hP.keep fun _ _ => rfl
          have hB0 : B ≤ wr.drew.heap.size := hBr
          have z0 := (h0.bk 11 _ rfl).1
          clear h hO hP hBr
          refine wp_region_held_drew (S := (fun _ => True)) (by kernel_rfl) (by trivial) ?_
          intro hHeld
          generalize wr.drew = w0 at *
          refine wpAnyH_take (i := 0) (v := ?_) (by simp only [List.getElem?_toArray, List.getElem?_cons_zero, List.getElem?_cons_succ]; rfl) (by kernel_rfl) (by kernel_rfl) (by kernel_rfl) (by exact fun _ _ _ h => h) (Or.inl ⟨by rfl, ?_⟩) (by assumption) ?_; rotate_left; (focus (intro w hSw; (try dsimp only at hSw); go_simp; try with_reducible rfl)); (try simp only [Act.put, List.setIfInBounds_toArray, List.set_cons_zero, List.set_cons_succ])
          refine wpAnyH_take (i := 2) (v := ?_) (by simp only [List.getElem?_toArray, List.getElem?_cons_zero, List.getElem?_cons_succ]; rfl) (by kernel_rfl) (by kernel_rfl) (by kernel_rfl) (by exact fun _ _ _ h => h) (Or.inl ⟨by rfl, ?_⟩) (by assumption) ?_; rotate_left; (focus (intro w hSw; (try dsimp only at hSw); go_simp; try with_reducible rfl)); (try simp only [Act.put, List.setIfInBounds_toArray, List.set_cons_zero, List.set_cons_succ])
          refine wpAnyH_ready (rs := [1, 3]) (by kernel_rfl) (by simp) ?_
          refine AllReadyH.cons (by simp only [List.getElem?_toArray, List.getElem?_cons_zero, List.getElem?_cons_succ]; rfl) (fun K hK => ?_) ?_
          · go_simp
            refine hK.out _ _ (trivial) ?_
            clear hHeld hK
            intro hHeld
            (try simp only [Act.put, List.setIfInBounds_toArray, List.set_cons_zero, List.set_cons_succ])
            refine wpAnyH_ready (rs := [3]) (by kernel_rfl) (by simp) ?_
            refine AllReadyH.cons (by simp only [List.getElem?_toArray, List.getElem?_cons_zero, List.getElem?_cons_succ]; rfl) (fun K hK => ?_) AllReadyH.nil
            go_simp
            go_at_call 43
            refine (kNr _ h0.ps.rd).mono ?_
            rintro e w1 ⟨rfl, hR, hT⟩
            have h1 := h0.call hR hT
            have hO1 := hO0.rest hT (by have := h0.hp; omega)
            have hP1 := hP0.rest hT (by have := h0.hp; omega)
            have hB1 := Nat.le_trans hB0 hT.size
            have z1 := (h1.bk 11 _ rfl).1
            clear hR hT
            refine hK.out _ _ (trivial) ?_
            clear hHeld hK
            intro hHeld
            (try simp only [Act.put, List.setIfInBounds_toArray, List.set_cons_zero, List.set_cons_succ])
            refine wpAnyH_ready (rs := [4]) (by kernel_rfl) (by simp) ?_
            refine AllReadyH.cons (by simp only [List.getElem?_toArray, List.getElem?_cons_zero, List.getElem?_cons_succ]; rfl) (fun K hK => ?_) AllReadyH.nil
            go_simp
            refine hK.out _ _ (trivial) ?_
            clear hHeld hK
            intro hHeld
            obtain ⟨vw', V3, hap, hP3, hG3⟩ := hP1.push wd_ok hB1 m #[.int .i64 m] rfl 2 (by omega)
            have hBl := hP1.grew_below hB1 hG3
            have h3 := h1.past hpB hBl
            have hO3 : OwnG V3 (p + 1) va (nodGs l).1 := hO1.keep fun k hk => hBl.block k (hvB k hk)
            have hB3 := Nat.le_trans hB1 hBl.size
            obtain ⟨aa', ca', hva', -⟩ := hP3.slice wd_ok.len
            obtain ⟨L', hL'⟩ : ∃ L', (gs ++ [m]).length = L' := ⟨_, rfl⟩
            rw [hL'] at hva'
            clear hL'
            subst hva'
            have y3 := h3.bk 11 _ rfl
            have h9 := h3.set 11 (.slice aa' L' ca') (by simp)
            have hO9 : OwnG (V3.setCell ⟨p, 11, none⟩ (.slice aa' L' ca')) (p + 1) va (nodGs l).1 := hO3.set (fun hk => by have := (hO3.lt hk).1; omega)
            have hP9 : OwnW (V3.setCell ⟨p, 11, none⟩ (.slice aa' L' ca')) B (.slice aa' L' ca') (gs ++ [m]) := hP3.set (fun hk => by have := (hP3.lt hk).1; omega)
            have hB9 : B ≤ (V3.setCell ⟨p, 11, none⟩ (.slice aa' L' ca')).heap.size := by simpa using hB3
            have z2 := (((h1.past h1.lt (alloc_below w1 (.cells #[.int .i64 m] 2)))).bk 11 _ rfl).1
            clear hP1 hO1 hB1 hG3 hBl h3 hO3 hP3
            clear h1
            generalize w1.alloc (.cells #[.int .i64 m] 2) = w2 at *
            generalize w1.heap.size = q at *
            (try simp only [Act.put, List.setIfInBounds_toArray, List.set_cons_zero, List.set_cons_succ])
            refine wpAnyH_ready (rs := [5]) (by kernel_rfl) (by simp) ?_
            refine AllReadyH.cons (by simp only [List.getElem?_toArray, List.getElem?_cons_zero, List.getElem?_cons_succ]; rfl) (fun K hK => ?_) AllReadyH.nil
            refine step_append rfl _ _ rfl rfl rfl rfl hap ?_
            (try simp only [Act.put, List.setIfInBounds_toArray, List.set_cons_zero, List.set_cons_succ])
            refine hK.out _ _ (trivial) ?_
            clear hHeld hK
            intro hHeld
            (try simp only [Act.put, List.setIfInBounds_toArray, List.set_cons_zero, List.set_cons_succ])
            refine wpAnyH_take (i := 6) (v := ?_) (by simp only [List.getElem?_toArray, List.getElem?_cons_zero, List.getElem?_cons_succ]; rfl) (by kernel_rfl) (by kernel_rfl) (by kernel_rfl) (by exact fun _ _ _ h => h) (Or.inl ⟨by rfl, ?_⟩) (by assumption) ?_; rotate_left; (focus (intro w hSw; (try dsimp only at hSw); go_simp; try with_reducible rfl)); (try simp only [Act.put, List.setIfInBounds_toArray, List.set_cons_zero, List.set_cons_succ])
            refine wpAnyH_ready (rs := [7]) (by kernel_rfl) (by simp) ?_
            refine AllReadyH.cons (by simp only [List.getElem?_toArray, List.getElem?_cons_zero, List.getElem?_cons_succ]; rfl) (fun K hK => ?_) AllReadyH.nil
            go_simp
            refine hK.out _ _ (trivial) ?_
            clear hHeld hK
            intro hHeld
            (try simp only [Act.put, List.setIfInBounds_toArray, List.set_cons_zero, List.set_cons_succ])
            refine wpAnyH_done (by kernel_rfl) ?_ _
            go_wp2_with fail
            refine ⟨⟨i + 1, by omega, by simp, .slice aa' L' ca', ?_, hO9, ?_, ?_, ?_⟩, by simp [Go.RowKit.intOf]; omega⟩
            · rw [hnx.out]; exact h9
            · rw [hnx.out]; exact hP9
            · rw [hnx.out]; simp; omega
            · exact hB9
          refine AllReadyH.cons (by simp only [List.getElem?_toArray, List.getElem?_cons_zero, List.getElem?_cons_succ]; rfl) (fun K hK => ?_) AllReadyH.nil
          go_simp
          go_at_call 43
          refine (kNr _ h0.ps.rd).mono ?_
          rintro e w1 ⟨rfl, hR, hT⟩
          have h1 := h0.call hR hT
          have hO1 := hO0.rest hT (by have := h0.hp; omega)
          have hP1 := hP0.rest hT (by have := h0.hp; omega)
          have hB1 := Nat.le_trans hB0 hT.size
          have z1 := (h1.bk 11 _ rfl).1
          clear hR hT
          refine hK.out _ _ (trivial) ?_
          clear hHeld hK
          intro hHeld
          (try simp only [Act.put, List.setIfInBounds_toArray, List.set_cons_zero, List.set_cons_succ])
          refine wpAnyH_ready (rs := [1, 4]) (by kernel_rfl) (by simp) ?_
          refine AllReadyH.cons (by simp only [List.getElem?_toArray, List.getElem?_cons_zero, List.getElem?_cons_succ]; rfl) (fun K hK => ?_) ?_
          · go_simp
            refine hK.out _ _ (trivial) ?_
            clear hHeld hK
            intro hHeld
            (try simp only [Act.put, List.setIfInBounds_toArray, List.set_cons_zero, List.set_cons_succ])
            refine wpAnyH_ready (rs := [4]) (by kernel_rfl) (by simp) ?_
            refine AllReadyH.cons (by simp only [List.getElem?_toArray, List.getElem?_cons_zero, List.getElem?_cons_succ]; rfl) (fun K hK => ?_) AllReadyH.nil
            go_simp
            refine hK.out _ _ (trivial) ?_
            clear hHeld hK
            intro hHeld
            obtain ⟨vw', V3, hap, hP3, hG3⟩ := hP1.push wd_ok hB1 m #[.int .i64 m] rfl 2 (by omega)
            have hBl := hP1.grew_below hB1 hG3
            have h3 := h1.past hpB hBl
            have hO3 : OwnG V3 (p + 1) va (nodGs l).1 := hO1.keep fun k hk => hBl.block k (hvB k hk)
            have hB3 := Nat.le_trans hB1 hBl.size
            obtain ⟨aa', ca', hva', -⟩ := hP3.slice wd_ok.len
            obtain ⟨L', hL'⟩ : ∃ L', (gs ++ [m]).length = L' := ⟨_, rfl⟩
            rw [hL'] at hva'
            clear hL'
            subst hva'
            have y3 := h3.bk 11 _ rfl
            have h9 := h3.set 11 (.slice aa' L' ca') (by simp)
            have hO9 : OwnG (V3.setCell ⟨p, 11, none⟩ (.slice aa' L' ca')) (p + 1) va (nodGs l).1 := hO3.set (fun hk => by have := (hO3.lt hk).1; omega)
            have hP9 : OwnW (V3.setCell ⟨p, 11, none⟩ (.slice aa' L' ca')) B (.slice aa' L' ca') (gs ++ [m]) := hP3.set (fun hk => by have := (hP3.lt hk).1; omega)
            have hB9 : B ≤ (V3.setCell ⟨p, 11, none⟩ (.slice aa' L' ca')).heap.size := by simpa using hB3
            have z2 := (((h1.past h1.lt (alloc_below w1 (.cells #[.int .i64 m] 2)))).bk 11 _ rfl).1
            clear hP1 hO1 hB1 hG3 hBl h3 hO3 hP3
            clear h1
            generalize w1.alloc (.cells #[.int .i64 m] 2) = w2 at *
            generalize w1.heap.size = q at *
            (try simp only [Act.put, List.setIfInBounds_toArray, List.set_cons_zero, List.set_cons_succ])
            refine wpAnyH_ready (rs := [5]) (by kernel_rfl) (by simp) ?_
            refine AllReadyH.cons (by simp only [List.getElem?_toArray, List.getElem?_cons_zero, List.getElem?_cons_succ]; rfl) (fun K hK => ?_) AllReadyH.nil
            refine step_append rfl _ _ rfl rfl rfl rfl hap ?_
            (try simp only [Act.put, List.setIfInBounds_toArray, List.set_cons_zero, List.set_cons_succ])
            refine hK.out _ _ (trivial) ?_
            clear hHeld hK
            intro hHeld
            (try simp only [Act.put, List.setIfInBounds_toArray, List.set_cons_zero, List.set_cons_succ])
            refine wpAnyH_take (i := 6) (v := ?_) (by simp only [List.getElem?_toArray, List.getElem?_cons_zero, List.getElem?_cons_succ]; rfl) (by kernel_rfl) (by kernel_rfl) (by kernel_rfl) (by exact fun _ _ _ h => h) (Or.inl ⟨by rfl, ?_⟩) (by assumption) ?_; rotate_left; (focus (intro w hSw; (try dsimp only at hSw); go_simp; try with_reducible rfl)); (try simp only [Act.put, List.setIfInBounds_toArray, List.set_cons_zero, List.set_cons_succ])
            refine wpAnyH_ready (rs := [7]) (by kernel_rfl) (by simp) ?_
            refine AllReadyH.cons (by simp only [List.getElem?_toArray, List.getElem?_cons_zero, List.getElem?_cons_succ]; rfl) (fun K hK => ?_) AllReadyH.nil
            go_simp
            refine hK.out _ _ (trivial) ?_
            clear hHeld hK
            intro hHeld
            (try simp only [Act.put, List.setIfInBounds_toArray, List.set_cons_zero, List.set_cons_succ])
            refine wpAnyH_done (by kernel_rfl) ?_ _
            go_wp2_with fail
            refine ⟨⟨i + 1, by omega, by simp, .slice aa' L' ca', ?_, hO9, ?_, ?_, ?_⟩, by simp [Go.RowKit.intOf]; omega⟩
            · rw [hnx.out]; exact h9
            · rw [hnx.out]; exact hP9
            · rw [hnx.out]; simp; omega
            · exact hB9
          refine AllReadyH.cons (by simp only [List.getElem?_toArray, List.getElem?_cons_zero, List.getElem?_cons_succ]; rfl) (fun K hK => ?_) AllReadyH.nil
          go_simp
          refine hK.out _ _ (trivial) ?_
          clear hHeld hK
          intro hHeld
          obtain ⟨vw', V3, hap, hP3, hG3⟩ := hP1.push wd_ok hB1 m #[.int .i64 m] rfl 2 (by omega)
          have hBl := hP1.grew_below hB1 hG3
          have h3 := h1.past hpB hBl
          have hO3 : OwnG V3 (p + 1) va (nodGs l).1 := hO1.keep fun k hk => hBl.block k (hvB k hk)
          have hB3 := Nat.le_trans hB1 hBl.size
          obtain ⟨aa', ca', hva', -⟩ := hP3.slice wd_ok.len
          obtain ⟨L', hL'⟩ : ∃ L', (gs ++ [m]).length = L' := ⟨_, rfl⟩
          rw [hL'] at hva'
          clear hL'
          subst hva'
          have y3 := h3.bk 11 _ rfl
          have h9 := h3.set 11 (.slice aa' L' ca') (by simp)
          have hO9 : OwnG (V3.setCell ⟨p, 11, none⟩ (.slice aa' L' ca')) (p + 1) va (nodGs l).1 := hO3.set (fun hk => by have := (hO3.lt hk).1; omega)
          have hP9 : OwnW (V3.setCell ⟨p, 11, none⟩ (.slice aa' L' ca')) B (.slice aa' L' ca') (gs ++ [m]) := hP3.set (fun hk => by have := (hP3.lt hk).1; omega)
          have hB9 : B ≤ (V3.setCell ⟨p, 11, none⟩ (.slice aa' L' ca')).heap.size := by simpa using hB3
          have z2 := (((h1.past h1.lt (alloc_below w1 (.cells #[.int .i64 m] 2)))).bk 11 _ rfl).1
          clear hP1 hO1 hB1 hG3 hBl h3 hO3 hP3
          clear h1
          generalize w1.alloc (.cells #[.int .i64 m] 2) = w2 at *
          generalize w1.heap.size = q at *
          (try simp only [Act.put, List.setIfInBounds_toArray, List.set_cons_zero, List.set_cons_succ])
          refine wpAnyH_ready (rs := [1]) (by kernel_rfl) (by simp) ?_
          refine AllReadyH.cons (by simp only [List.getElem?_toArray, List.getElem?_cons_zero, List.getElem?_cons_succ]; rfl) (fun K hK => ?_) AllReadyH.nil
          go_simp
          refine hK.out _ _ (trivial) ?_
          clear hHeld hK
          intro hHeld
          (try simp only [Act.put, List.setIfInBounds_toArray, List.set_cons_zero, List.set_cons_succ])
          refine wpAnyH_ready (rs := [5]) (by kernel_rfl) (by simp) ?_
          refine AllReadyH.cons (by simp only [List.getElem?_toArray, List.getElem?_cons_zero, List.getElem?_cons_succ]; rfl) (fun K hK => ?_) AllReadyH.nil
          refine step_append rfl _ _ rfl rfl rfl rfl hap ?_
          (try simp only [Act.put, List.setIfInBounds_toArray, List.set_cons_zero, List.set_cons_succ])
          refine hK.out _ _ (trivial) ?_
          clear hHeld hK
          intro hHeld
          (try simp only [Act.put, List.setIfInBounds_toArray, List.set_cons_zero, List.set_cons_succ])
          refine wpAnyH_take (i := 6) (v := ?_) (by simp only [List.getElem?_toArray, List.getElem?_cons_zero, List.getElem?_cons_succ]; rfl) (by kernel_rfl) (by kernel_rfl) (by kernel_rfl) (by exact fun _ _ _ h => h) (Or.inl ⟨by rfl, ?_⟩) (by assumption) ?_; rotate_left; (focus (intro w hSw; (try dsimp only at hSw); go_simp; try with_reducible rfl)); (try simp only [Act.put, List.setIfInBounds_toArray, List.set_cons_zero, List.set_cons_succ])
          refine wpAnyH_ready (rs := [7]) (by kernel_rfl) (by simp) ?_
          refine AllReadyH.cons (by simp only [List.getElem?_toArray, List.getElem?_cons_zero, List.getElem?_cons_succ]; rfl) (fun K hK => ?_) AllReadyH.nil
          go_simp
          refine hK.out _ _ (trivial) ?_
          clear hHeld hK
          intro hHeld
          (try simp only [Act.put, List.setIfInBounds_toArray, List.set_cons_zero, List.set_cons_succ])
          refine wpAnyH_done (by kernel_rfl) ?_ _
          go_wp2_with fail
          refine ⟨⟨i + 1, by omega, by simp, .slice aa' L' ca', ?_, hO9, ?_, ?_, ?_⟩, by simp [Go.RowKit.intOf]; omega⟩
          · rw [hnx.out]; exact h9
          · rw [hnx.out]; exact hP9
          · rw [hnx.out]; simp; omega
          · exact hB9
      · obtain rfl : i = K := by omega
        go_wp2_with fail
        go_meet
        refine ⟨vw, ?_, hO, ?_⟩
        · rw [hr12.out]
          exact h
        · rw [hG0.out]
          exact hP
  case rest =>
  clear h10 hKl hO
  rename_i wc
  obtain ⟨vw, h, hO, hP⟩ := hcut
  clear hr12 hG0 hBW
  go_wp2_with fail
  have hEe : endV l (nodR12 l) = E := hE.out
  have kEr := kE (nodR12 l)
  simp only [hEe] at kEr
  clear hEe kE kT kU kL kN
  refine (kEr _ h.ps.rd).mono ?_
  rintro e V ⟨rfl, hR, hT⟩
  replace hO := hO.rest hT (by have := h.hp; omega)
  replace hP := hP.rest hT (by have := h.hp; omega)
  replace h := h.call hR hT
  clear hR hT
  obtain ⟨aa, ca, hva, -⟩ := hO.slice gr_ok.len
  obtain ⟨wa, cw, hvw, -⟩ := hP.slice wd_ok.len
  obtain ⟨La, hLa⟩ : ∃ La, (nodGs l).1.length = La := ⟨_, rfl⟩
  obtain ⟨Lw, hLw⟩ : ∃ Lw, (nodWs l).1.length = Lw := ⟨_, rfl⟩
  rw [hLa] at hva
  rw [hLw] at hvw
  clear hLa hLw
  subst hva hvw
  have hP' : OwnW V (p + 1) (.slice wa Lw cw) (nodWs l).1 := hP.lower (by omega)
  have hsp : w.heap.size < p := by have := h.hp; omega
  clear hP
  by_cases he : E = 0
  · have hPx : Pm = ⟨x0, db, x1, (nodGs l).1, (x3 : Int), (x4 : Int), (x5 : Int), (x6 : Int), (nodWs l).1, x2⟩ := by
      rw [← hPm.out]
      unfold nodP
      rw [hE.out, if_pos he]
      unfold nodV
      rw [hx0.out, hdx.out, hx1.out, hx2.out, hx3.out, hx4.out, hx5.out, hx6.out]
    subst hPx
    subst he
    clear kEr

    obtain ⟨cs, hcs⟩ : ∃ cs : List Value, cs = [.string x0, .bool db, .int .i64 x1.s, .int .i64 x1.c, .int .i64 x1.i, .int .i64 x1.k, .slice aa La ca, .int .i64 (x3 : Int), .int .i64 (x4 : Int), .int .i64 (x5 : Int), .int .i64 (x6 : Int), .slice wa Lw cw, .int .i64 x2.s, .int .i64 x2.c, .int .i64 x2.i, .int .i64 x2.k] := ⟨_, rfl⟩
    have hl : cs.length = 16 := by rw [hcs]; rfl
    have hone : ∀ v ∈ cs, v.oneCell' = true := by rw [hcs]; simp [Value.oneCell']
    have hbk : Blk V p cs := by rw [hcs]; exact h.bk
    have hrp := hbk.range
    have hth : V.there w.heap.size 0 cs.length := by rw [hl]; exact h.ps.m2.there
    have hsz : (Try.prog.info? 29).map (·.size) = some cs.length := by rw [hl]; kernel_rfl
    have hund : Try.prog.underlying 29 = some (.struct (Try.prog.fieldsOf 29)) := by kernel_rfl
    have z : Blk (V.setCells w.heap.size 0 cs) w.heap.size cs := h.ps.m2.setAll (by rw [hl]; rfl)
    have b := h.ps.bl.trans (Below.cells (Nat.le_refl _) cs 0 (Below.refl w.heap.size V))
    have hOz := (hO.setAll (g := w.heap.size) (fun hk => by have := (hO.lt hk).1; omega) cs).lower (show w.heap.size ≤ p + 1 by omega)
    have hPz := (hP'.setAll (g := w.heap.size) (fun hk => by have := (hP'.lt hk).1; omega) cs).lower (show w.heap.size ≤ p + 1 by omega)
    clear hO hP'
    obtain ⟨V9, hV9⟩ : ∃ V9, V.setCells w.heap.size 0 cs = V9 := ⟨_, rfl⟩
    rw [hV9] at z b hOz hPz
    have hcs : Aside (cs = [.string x0, .bool db, .int .i64 x1.s, .int .i64 x1.c, .int .i64 x1.i, .int .i64 x1.k, .slice aa La ca, .int .i64 (x3 : Int), .int .i64 (x4 : Int), .int .i64 (x5 : Int), .int .i64 (x6 : Int), .slice wa Lw cw, .int .i64 x2.s, .int .i64 x2.c, .int .i64 x2.i, .int .i64 x2.k]) := hcs
    clear h
    go_wp2_with (first | (refine wpList_load_row rfl _ rfl _ rfl cs hrp hund rfl hsz ?_) | (refine wpList_store_row rfl _ _ rfl _ rfl cs rfl hth hsz hone hV9 ?_) | fail)
    exact bodyPost_ret (v := .tuple #[.agg cs.toArray, .int .i64 0]) (results_row2 (p := 2) (q := 3) Try.results16 _ _ w.heap.size rfl (.int .i64 0) rfl cs z.range hund rfl hsz) rfl ⟨_, _, by (rw [hcs.out]) <;> rfl, hOz, hPz, b⟩
  · have hPx : Pm = nodZ := by
      rw [← hPm.out]
      unfold nodP
      rw [hE.out, if_neg he]
    subst hPx
    clear hO hP'

    go_wp2_with fail
    refine (kEr _ h.ps.rd).mono ?_
    rintro e U ⟨rfl, hR, hT⟩
    replace h := h.call hR hT
    clear hR hT kEr
    obtain ⟨cs, hcs⟩ : ∃ cs : List Value, cs = [.string ⟨#[]⟩, .bool false, .int .i64 0, .int .i64 0, .int .i64 0, .int .i64 0, .slice none 0 0, .int .i64 0, .int .i64 0, .int .i64 0, .int .i64 0, .slice none 0 0, .int .i64 0, .int .i64 0, .int .i64 0, .int .i64 0] := ⟨_, rfl⟩
    have hl : cs.length = 16 := by rw [hcs]; rfl
    have hone : ∀ v ∈ cs, v.oneCell' = true := by rw [hcs]; simp [Value.oneCell']
    have hth : U.there w.heap.size 0 cs.length := by rw [hl]; exact h.ps.m2.there
    have hsz : (Try.prog.info? 29).map (·.size) = some cs.length := by rw [hl]; kernel_rfl
    have hund : Try.prog.underlying 29 = some (.struct (Try.prog.fieldsOf 29)) := by kernel_rfl
    have z : Blk (U.setCells w.heap.size 0 cs) w.heap.size cs := h.ps.m2.setAll (by rw [hl]; rfl)
    have b := h.ps.bl.trans (Below.cells (Nat.le_refl _) cs 0 (Below.refl w.heap.size U))
    obtain ⟨V9, hV9⟩ : ∃ V9, U.setCells w.heap.size 0 cs = V9 := ⟨_, rfl⟩
    rw [hV9] at z b
    have hcs : Aside (cs = [.string ⟨#[]⟩, .bool false, .int .i64 0, .int .i64 0, .int .i64 0, .int .i64 0, .slice none 0 0, .int .i64 0, .int .i64 0, .int .i64 0, .int .i64 0, .slice none 0 0, .int .i64 0, .int .i64 0, .int .i64 0, .int .i64 0]) := hcs
    clear h
    go_wp2_with (first | (refine wpList_store_row rfl _ _ rfl _ rfl cs (by rw [hcs.out]; rfl) hth hsz hone hV9 ?_) | fail)
    exact bodyPost_ret (v := .tuple #[.agg cs.toArray, .int .i64 E]) (results_row2 (p := 2) (q := 3) Try.results16 _ _ w.heap.size rfl (.int .i64 E) rfl cs z.range hund rfl hsz) rfl ⟨_, _, by (rw [hcs.out]) <;> rfl, OwnR.nil _ _ _ _ _, OwnR.nil _ _ _ _ _, b⟩
end Go.Proofs.Ytecleampjeebaaa
