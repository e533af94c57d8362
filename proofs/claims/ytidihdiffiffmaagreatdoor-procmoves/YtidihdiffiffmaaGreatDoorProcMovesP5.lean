/-
  PART 5 of what ProcMoves leans on: PcPut PcKnown PcPm PcSteps.
-/
import Derived.Deep.Cut
import Derived.Deep.CutRange
import Derived.Test.YtidihdiffiffmaaGreatDoorProcMovesP4
namespace Go.Proofs.YtidihdiffiffmaaGreatDoor
open Go.RowKit
set_option maxRecDepth 8000
set_option linter.unusedSimpArgs false
set_option linter.unusedVariables false
theorem wpAnyH_strong {P : Program} {ops : Array Oper} {Q : Exit → Act → World → Prop} {md : Region.Mode} {S : World → Prop} (S' : World → Prop) (hs : ∀ w, S' w → S w) : ∀ {fuel : Nat} {listed : Array Bool} {a : Act} {w : World}, wpAnyH P md ops Q S' fuel listed a w → wpAnyH P md ops Q S fuel listed a w
  | 0, _, _, _, h => h
  | fuel + 1, _, _, _, h => ⟨h.1, fun i hi => wpOp_mono (fun a' w' h' => ⟨hs _ h'.1, wpAnyH_strong S' hs h'.2⟩) (h.2 i hi)⟩
theorem own_oneP {α : Type} {e t : TypeId} {sz base : Nat} {f : α → List Value} (hE : ElemOk e t sz f) (w : World) (hb : base ≤ w.heap.size) (x : α) : OwnR e sz f (w.alloc (.cells (f x).toArray e)) base (.slice (some ⟨w.heap.size, 0, none⟩) 1 1) [x] := by
  refine ⟨by simp [hE.len], .inr ⟨w.heap.size, 1, _, rfl, hb, heap_alloc_new w _, Nat.le_refl _, by simp only [maxLen]; omega, by simp [hE.len], ?_⟩⟩
  simp only [List.flatMap_cons, List.flatMap_nil, List.append_nil, List.length_cons, List.length_nil]
  rw [List.take_of_length_le]
  simp [hE.len]
structure PPg where
  is : List Ins
  a : Option Addr
  c : Nat
def pgcl (x : PPg) : List Value := [.slice x.a x.is.length x.c]
theorem pg_len1 (x : PPg) : (pgcl x).length = 1 := rfl
def PPg.At (x : PPg) (W : World) : Prop := RowAt 3 ins3 W x.a x.is ∧ x.is.length ≤ 9223372036854775807
def rgcl (x : Rg) : List Value := [.int .i64 x.a, .int .i64 x.b, .int .i64 x.c, .int .i64 x.g]
theorem rg_len (x : Rg) : (rgcl x).length = 4 := rfl
theorem rg_one (x : Rg) : ∀ u ∈ rgcl x, u.oneCell' = true := fun u hu => by
  simp [rgcl] at hu
  rcases hu with rfl | rfl | rfl | rfl <;> rfl
theorem icell_len (x : Int) : (icell x).length = 1 := rfl
theorem intP_load (w : World) (y : Addr) (v : Value) (h : w.cell? y = some v) : (Instr.loadAt 3 (.pointer (some y))).run Tryz.prog w = .ok v w := by
  have h1 := Tryz.underlying3
  go_simp
theorem intP_store (w : World) (y : Addr) (u : Value) (v : Int) (hc : w.cell? y = some u) (hf : w.frozen? y = false) : (Instr.storeAt 3 (.pointer (some y)) (.int .i64 v)).run Tryz.prog w = .ok () (w.setCell y (.int .i64 v)) := by
  have h1 := Tryz.underlying3
  go_simp
theorem nd_build (p : ByteArray) (t : Lab) (a a2 : Option Addr) (n c n2 c2 : Nat) (w : World) : (Instr.build 36 #[(0, .string p), (2, .agg (lab4 t).toArray), (3, .slice a n c), (4, .agg #[.int .i64 4, .int .i64 4, .int .i64 4, .int .i64 0]), (5, .slice a2 n2 c2)]).run Tryz.prog w = .ok (.agg #[.string p, .bool false, .int .i64 t.s, .int .i64 t.c, .int .i64 t.i, .int .i64 t.k, .slice a n c, .int .i64 4, .int .i64 4, .int .i64 4, .int .i64 0, .slice a2 n2 c2, .int .i64 0, .int .i64 0, .int .i64 0, .int .i64 0]) w := by
  have h1 := Tryz.underlying36
  have h2 := Tryz.underlying30
  have h3 := Tryz.underlying33
  unfold lab4
  go_simp
abbrev ZNP : Array Value := #[.string ⟨#[]⟩, .bool false, .int .i64 0, .int .i64 0, .int .i64 0, .int .i64 0, .slice none 0 0, .int .i64 0, .int .i64 0, .int .i64 0, .int .i64 0, .slice none 0 0, .int .i64 0, .int .i64 0, .int .i64 0, .int .i64 0]
theorem ChrAt.kept {W W' : World} {pb k : Nat} (h : ChrAt W pb k) (hb : W'.heap[pb]? = W.heap[pb]?) (hs : W.heap.size ≤ W'.heap.size) : ChrAt W' pb k := ⟨Nat.lt_of_lt_of_le h.lt hs, (World.cell?_of_block (a := ⟨pb, 0, none⟩) hb).trans h.cell, h.hk⟩
theorem chr_ne {W : World} {gC gN k : Nat} (h : ChrAt W gC k) (hz : BlkL gN zeroP.cs W) (q : gC = gN) : False := by
  have h1 := (hz.1 0 _ rfl).1
  rw [← q, h.cell] at h1
  cases h1
theorem own_at {W : World} {B : Nat} {x : PN} (h1 : OwnR 119 2 gcl W B x.av x.n.acl) (h2 : OwnR 2 1 wcl W B x.wv x.n.words) : x.At W := by
  obtain ⟨a1, c1, e1, -, -, r1⟩ := h1.slice gr_okT.len
  obtain ⟨a2, c2, e2, -, -, r2⟩ := h2.slice wd_okC.len
  unfold PN.av at e1
  unfold PN.wv at e2
  injection e1 with q1 q2 q3
  injection e2 with q4 q5 q6
  refine ⟨?_, ?_⟩
  · rw [q1]; exact row_grs r1
  · rw [q4]; exact row_wrds r2
theorem put_rowN {W W' : World} {a a' : Option Addr} {c B : Nat} {l : List PN} {x : PN} (ho : OwnN W' B (.slice a' (putP l x).length c) (putP l x)) (hr : RowN W a l) (hx : x.At W) (hb : Below W.heap.size W W') : RowN W' a' (putP l x) := by
  obtain ⟨a1, c1, e1, -, -, r1⟩ := ho.slice pn_len
  injection e1 with q1 q2 q3
  refine ⟨by rw [q1]; exact r1, fun y hy => ?_⟩
  rcases put_sub hy with rfl | hy
  · exact hx.below hb
  · exact (hr.p y hy).below hb
structure PX (wr : World) (nd : Nat) (d : PN) (yp : Addr) (i : Nat) (pp : PPg) (W : World) : Prop where
  nd : BlkL nd d.cs W
  pr : CellsAt W (yp.add i) (pgcl pp)
theorem PX.then {wr : World} {nd : Nat} {d : PN} {yp : Addr} {i : Nat} {pp : PPg} {W W' : World} (h : PX wr nd d yp i pp W) (k : Below W.heap.size W W') : PX wr nd d yp i pp W' := ⟨stab_blk _ _ _ _ h.nd k, h.pr.below k⟩
theorem PX.lab {wr : World} {nd : Nat} {d : PN} {yp : Addr} {i : Nat} {pp : PPg} {W : World} (h : PX wr nd d yp i pp W) : W.rangeAt nd 2 (lab4 d.n.label) := fun j v hv => by
  have hj : j < 4 := (List.getElem?_eq_some_iff.1 hv).1
  have h1 := h.nd.1 (2 + j)
  match j, hj with
  | 0, _ => exact (h1 v hv).1
  | 1, _ => exact (h1 v hv).1
  | 2, _ => exact (h1 v hv).1
  | 3, _ => exact (h1 v hv).1
def PutR (R : List Nod) (w : World) (e : Ending) (w' : World) : Prop := ∃ (l' : List PN) (a' : Option Addr) (c' : Nat), e = .returned (.slice a' l'.length c') ∧ RowN w' a' l' ∧ namesP l' = R ∧ Below w.heap.size w w'
set_option maxRecDepth 8000 in
set_option maxHeartbeats 16000000 in
theorem pput_any (j : Nat) (hj : j < 2) (a : Option Addr) (cap : Nat) (l : List PN) (pa : Option Addr) (pc : Nat) (ps : List PPg) (ma : Option Addr) (mc : Nat) (ms : List Int) (ra : Option Addr) (rc : Nat) (rs : List Rg) (hl : l.length ≤ 1000) (w : World) (h : RowN w a l) (hps : RowAt 1 pgcl w pa ps) (hpA : ∀ x ∈ ps, x.At w) (hms : RowAt 1 icell w ma ms) (hrsR : RowAt 4 rgcl w ra rs) :
    Calls Tryz.prog 24 #[.slice a l.length cap, .string (dirS j), .slice pa ps.length pc, .slice ma ms.length mc, .slice ra rs.length rc] w (PutR (putD (namesP l) j (ps.map (·.is)) ms rs) w) := by
  have hundN := Tryz.underlying36
  have hundL := Tryz.underlying30
  have hundG := Tryz.underlying92
  have hundR := Tryz.underlying33
  have hszN : (Tryz.prog.info? 36).map (·.size) = some 16 := by kernel_rfl
  have kf := rfindT_any a cap l (dirS j) (by omega) w h
  have hfn := find_names l (dirS j)
  obtain ⟨n, hn⟩ : ∃ n, l.length = n := ⟨_, rfl⟩
  obtain ⟨np, hnp⟩ : ∃ n, ps.length = n := ⟨_, rfl⟩
  obtain ⟨nm, hnm⟩ : ∃ n, ms.length = n := ⟨_, rfl⟩
  obtain ⟨nr, hnr⟩ : ∃ n, rs.length = n := ⟨_, rfl⟩
  rw [hn] at kf hl ⊢
  rw [hnp, hnm, hnr]
  replace hn : Aside (l.length = n) := hn
  replace hnp : Aside (ps.length = np) := hnp
  replace hnm : Aside (ms.length = nm) := hnm
  replace hnr : Aside (rs.length = nr) := hnr
  obtain ⟨R, hR⟩ : ∃ R, putD (namesP l) j (ps.map (·.is)) ms rs = R := ⟨_, rfl⟩
  rw [hR]
  unfold putD at hR
  rw [hfn] at hR
  obtain ⟨o, ho⟩ : ∃ o, findP l (dirS j) = o := ⟨_, rfl⟩
  rw [ho] at kf hR
  replace hR : Aside _ := hR
  obtain ⟨D, hD⟩ : ∃ D, dirS j = D := ⟨_, rfl⟩
  rw [hD] at kf ⊢
  replace hD : Aside (dirS j = D) := hD
  clear ho hfn
  obtain ⟨d, hd⟩ : ∃ d, o.getD zeroP = d := ⟨_, rfl⟩
  have hfc : foundCs o = d.cs := by unfold foundCs; rw [hd]
  rw [hfc] at kf
  clear hfc
  replace hd : Aside _ := hd
  go_enter Tryz.func24, Tryz.ntmps24
  go_wp2_with fail
  refine kf.mono ?_
  rintro e W1 ⟨rfl, hb1⟩
  have hszd : (Tryz.prog.info? 36).map (·.size) = some d.cs.length := by rw [pn_len]; exact hszN
  have hone := pn_one d
  obtain ⟨W2, hW2, hth2, hnd, hb2⟩ := put_new W1 ZNP 36 d.cs (by rw [pn_len]; rfl) (by rw [pn_len]; decide)
  have hB2 := Below.then hb1 hb2
  have hdir : W2.cell? ⟨W1.heap.size, 1, none⟩ = some (.bool d.n.dir) := (hnd.1 1 _ rfl).1
  clear kf hb1 hb2
  go_upto_region 2 with (first | (refine wpList_store_row rfl _ _ rfl W1.heap.size rfl d.cs rfl hth2 hszd hone hW2 ?_) | fail)
  clear hth2 hW2
  generalize W1.heap.size = nd at *
  cases o with
  | none =>
    go_wp2_with fail
    go_ret
    exact ⟨l, a, cap, by rw [hn.out]; rfl, h.below hB2, hR.out, hB2⟩
  | some d1 =>
    obtain rfl : d1 = d := hd.out
    clear hd
    simp only [Option.isSome_some]
    cases hdd : d1.n.dir
    · rw [hdd] at hdir
      go_wp2_with fail
      go_ret
      exact ⟨l, a, cap, by rw [hn.out]; rfl, h.below hB2, by rw [← hR.out]; show namesP l = (if d1.n.dir = true then _ else _); rw [if_neg (by rw [hdd]; decide)], hB2⟩
    rw [hdd] at hdir
    have kw := fun (k : Int) W => w17_any k 8 (by decide) (by decide) W
    have kput := fun (W : World) a1 c1 l1 x3 hll r => rputT_any a1 c1 l1 x3 hll W r
    clear hone hszd
    go_upto_region 4 with fail
    clear hdir
    go_wp2_with fail
    go_loopw [0, 13] (fun t0 t13 wr => ∃ (i : Nat) (l1 : List PN) (a1 : Option Addr) (c1 : Nat), i ≤ np ∧ i ≤ 5 ∧ t13 = .int .i64 (i : Int) ∧ t0 = .slice a1 l1.length c1 ∧ RowN wr a1 l1 ∧ namesP l1 = putsX j d1.n.label (ps.map (·.is)) ms rs i (namesP l) ∧ l1.length ≤ n + i ∧ BlkL nd d1.cs wr ∧ Below w.heap.size w wr) (fun _ t13 _ => 5 - (Go.RowKit.intOf t13).toNat)
    case atStart => exact ⟨0, l, a, cap, by omega, by omega, rfl, by rw [hn.out], h.below hB2, rfl, by rw [hn.out]; exact Nat.le_refl _, hnd, hB2⟩
    case round =>
      clear hnd hB2
      obtain ⟨i, l1, a1, c1, hi1, hi5, rfl, rfl, hrow, hl1, hll1, hnd, hBr⟩ := hrel
      by_cases hgo : i < np ∧ i < 5
      rotate_left
      · have hm : i = min np 5 := by omega
        have hfin : namesP l1 = R := by
          rw [← hR.out]
          show namesP l1 = (if d1.n.dir = true then putsX j d1.n.label (ps.map (·.is)) ms rs (min (ps.map (·.is)).length 5) (namesP l) else namesP l)
          rw [if_pos hdd, List.length_map, hnp.out, ← hm]
          exact hl1
        clear hm
        by_cases q : i < np
        · have i1 : (i : Int) < (np : Int) := by omega
          have i2 : ¬ (i : Int) < 5 := by omega
          go_wp2_with fail
          go_ret
          exact ⟨l1, a1, c1, rfl, hrow, hfin, hBr⟩
        · have i1 : ¬ (i : Int) < (np : Int) := by omega
          go_wp2_with fail
          go_ret
          exact ⟨l1, a1, c1, rfl, hrow, hfin, hBr⟩
      replace hl1 : Aside _ := hl1
      have hll : l1.length ≤ 100000 := by omega
      obtain ⟨pp, hpp⟩ : ∃ pp, ps[i]? = some pp := ⟨_, List.getElem?_eq_getElem (by rw [hnp.out]; exact hgo.1)⟩
      obtain ⟨hpA', hpl⟩ := hpA pp (List.mem_of_getElem? hpp)
      have hpin : Aside ((ps.map (·.is)).getD i [] = pp.is) := by
        show _ = _
        rw [List.getD_eq_getElem?_getD, List.getElem?_map, hpp]
        rfl
      obtain ⟨yp, rfl, -⟩ := hps i pp hpp
      have hpr := (hps.below pg_len1 hBr).at pg_len1 hpp
      rw [Nat.mul_one] at hpr
      have i1 : (i : Int) < (np : Int) := by omega
      have i2 : (i : Int) < 5 := by omega
      have i3 : ¬ (i : Int) < 0 := by omega
      have hu8 : IntKind.u8.wrap (48 + (i : Int)) = 48 + (i : Int) := by rw [IntKind.wrap_u8]; omega
      have hu64 : IntKind.i64.wrap (48 + (i : Int)) = 48 + (i : Int) := by rw [IntKind.wrap_i64]; omega
      have kwd := fun (W : World) r => pwords_any pp.a pp.c pp.is hpl W r
      have hbd := nd_build
      have hDz : D.size = 3 := by rw [← hD.out]; rfl
      have hcz : (chr (48 + i)).size = 1 := rfl
      have hsl : (Tryz.prog.info? 30).map (·.size) = some (lab4 d1.n.label).length := by kernel_rfl
      have hsg : (Tryz.prog.info? 92).map (·.size) = some (pgcl pp).length := by kernel_rfl
      have hsr : (Tryz.prog.info? 33).map (·.size) = some 4 := by kernel_rfl
      have hpA2 := hpA'
      go_upto_region 7 with fail
      have hS00 : PX wr nd d1 yp i pp wr := ⟨hnd, hpr⟩
      have hdr : Below wr.heap.size wr wr.drew := (Below.refl _ _).drew
      have hS : PX wr nd d1 yp i pp wr.drew := hS00.then hdr
      have hBw : Below wr.heap.size wr wr.drew := hdr
      clear hdr hpr
      go_cut [14] from 39 to 58 (fun s14 wc => ∃ (gN : Nat) (x0 : PN), s14 = .pointer (some ⟨gN, 0, none⟩) ∧ Below wr.heap.size wr wc ∧ BlkL gN x0.cs wc ∧ wr.heap.size ≤ gN ∧ x0.n = segX (D ++ slpS ++ dgS i) d1.n.label 7 ⟨4, 4, 4, 0⟩ (wordsN pp.is) ∧ OwnR 119 2 gcl wc wr.heap.size x0.av x0.n.acl ∧ OwnR 2 1 wcl wc wr.heap.size x0.wv x0.n.words ∧ x0.av.ownBlock ≠ some gN ∧ x0.wv.ownBlock ≠ some gN ∧ ∀ g, x0.wv.ownBlock = some g → x0.av.ownBlock ≠ some g)
      · skip
        refine wp_region_held_drew (S := (fun W => PX wr nd d1 yp i pp W)) (by kernel_rfl) (by exact hS) ?_
        intro hHeld
        generalize wr.drew = w0 at *
        refine tkA 0 ?_
        refine tkA 1 ?_
        refine tkA 2 ?_
        refine tkA 3 ?_
        refine tkA 4 ?_
        refine tkA 8 ?_
        refine tkB 9 (y := yieldsIf_load_mid (by rfl) 30 _ rfl nd 2 rfl (lab4 d1.n.label) _ (fun W s => s.lab) hundL rfl hsl) (h := ?_)
        refine tkA 10 ?_
        refine tkA 12 ?_
        refine tkA 13 ?_
        refine tkA 14 ?_
        refine tkA 15 ?_
        refine tkB 16 (y := yields_at (by rfl) _ rfl (yp.add i) rfl (pgcl pp) (fun _ s => s.pr) hundG rfl hsg) (h := ?_)
        refine tkR (rs := [5, 11, 17, 19]) ?_
        refine tkC (fun K hK => ?_) ?_
        · go_simp
          have hb := alloc_below w0 (.cells #[.int .u8 (48 + (i : Int))] 5)
          refine hK.out _ _ (hS.then hb) ?_
          clear hHeld hK
          intro hHeld
          have hch : ChrAt (w0.alloc (.cells #[.int .u8 (48 + (i : Int))] 5)) w0.heap.size (48 + i) := chr_made2 w0 i (by omega)
          replace hBw := Below.then hBw hb
          replace hS := hS.then hb
          generalize w0.alloc (.cells #[.int .u8 (48 + (i : Int))] 5) = w1 at *
          generalize w0.heap.size = gC at *
          clear hb
          refine wpAnyH_strong (S' := fun W => PX wr nd d1 yp i pp W ∧ ChrAt W gC (48 + i)) (fun _ h => h.1) ?_
          replace hHeld : PX wr nd d1 yp i pp w1 ∧ ChrAt w1 gC (48 + i) := ⟨hS, hch⟩
          (try simp only [Act.put, zsA, zsB, zsC])
          refine tkB 6 (y := yields_conv (by rfl) _ rfl rfl (fun _ s => s.2.conv)) (h := ?_)
          refine tkA 7 ?_
          refine tkR (rs := [11, 17, 19]) ?_
          refine tkC (fun K hK => ?_) ?_
          · skip
            have hb := alloc_below w1 (.cells (gcl ⟨starS, 7⟩).toArray 119)
            refine step_build1 gr_okT (by decide) rfl _ rfl (gcl ⟨starS, 7⟩) rfl rfl ?_
            (try simp only [Act.put, zsA, zsB, zsC])
            refine hK.out _ _ (⟨hS.then hb, hch.below hb⟩) ?_
            clear hHeld hK
            intro hHeld
            have hgr : OwnR 119 2 gcl (w1.alloc (.cells (gcl ⟨starS, 7⟩).toArray 119)) wr.heap.size (.slice (some ⟨w1.heap.size, 0, none⟩) 1 1) [⟨starS, 7⟩] := own_oneP gr_okT w1 hBw.size ⟨starS, 7⟩
            replace hBw := Below.then hBw hb
            replace hS := hS.then hb
            replace hch := hch.below hb
            generalize w1.alloc (.cells (gcl ⟨starS, 7⟩).toArray 119) = w2 at *
            generalize w1.heap.size = gA at *
            clear hb
            (try simp only [Act.put, zsA, zsB, zsC])
            refine tkR (rs := [17, 19]) ?_
            refine tkC (fun K hK => ?_) ?_
            · go_simp
              go_at_call 42
              refine (kwd w2 (hpA'.below in_okW.len (Below.then hBr hBw))).mono ?_
              rintro e w3 ⟨vw, rfl, hwo, hb⟩
              obtain ⟨va, vc, hvw, -, -, -⟩ := hwo.slice wd_okC.len
              subst hvw
              have hBw0 : wr.heap.size ≤ w2.heap.size := hBw.size
              have hneG : (Value.slice va (wordsN pp.is).length vc).ownBlock ≠ some gA := fun q => by have h9 := (hwo.lt q).1; have h8 : gA < w2.heap.size := (hgr.lt rfl).2; omega
              replace hBw := Below.then hBw hb
              replace hS := hS.then hb
              replace hch := hch.below hb
              replace hgr := hgr.below hb
              replace hwo : OwnR 2 1 wcl w3 wr.heap.size (Value.slice va (wordsN pp.is).length vc) (wordsN pp.is) := hwo.lower hBw0
              clear hb hBw0
              refine hK.out _ _ (⟨hS, hch⟩) ?_
              clear hHeld hK
              intro hHeld
              (try simp only [Act.put, zsA, zsB, zsC])
              refine tkA 18 ?_
              refine tkR (rs := [19]) ?_
              refine tkC (fun K hK => ?_) AllReadyH.nil
              have hb := alloc_below w3 (.cells ZNP 36)
              refine step_allocC (z := ZNP) rfl rfl (fun _ => rfl) ?_
              (try simp only [Act.put, zsA, zsB, zsC])
              refine hK.out _ _ (⟨hS.then hb, hch.below hb⟩) ?_
              clear hHeld hK
              intro hHeld
              have hz : BlkL w3.heap.size zeroP.cs (w3.alloc (.cells ZNP 36)) := blkl_alloc w3 ZNP 36
              have hwN : wr.heap.size ≤ w3.heap.size := hBw.size
              have hneA : (Value.slice (some ⟨gA, 0, none⟩) 1 1).ownBlock ≠ some w3.heap.size := fun q => by have h9 : gA = w3.heap.size := Option.some.inj q; have h8 : gA < w3.heap.size := (hgr.lt rfl).2; omega
              have hneW : (Value.slice va (wordsN pp.is).length vc).ownBlock ≠ some w3.heap.size := fun q => by have := (hwo.lt q).2; omega
              replace hBw := Below.then hBw hb
              replace hS := hS.then hb
              replace hch := hch.below hb
              replace hgr := hgr.below hb
              replace hwo := hwo.below hb
              generalize w3.alloc (.cells ZNP 36) = w4 at *
              generalize w3.heap.size = gN at *
              clear hb
              (try simp only [Act.put, zsA, zsB, zsC])
              refine tkR (rs := [20]) ?_
              refine tkC (fun K hK => ?_) AllReadyH.nil
              obtain ⟨x0, hx0⟩ : ∃ x0 : PN, x0 = ⟨segX (D ++ slpS ++ dgS i) d1.n.label 7 ⟨4, 4, 4, 0⟩ (wordsN pp.is), some ⟨gA, 0, none⟩, 1, va, vc⟩ := ⟨_, rfl⟩
              have hxl : x0.cs.length = 16 := pn_len x0
              have hxs : (Tryz.prog.info? 36).map (·.size) = some x0.cs.length := by rw [hxl]; exact hszN
              obtain ⟨V9, hV9, hth9, hgo, hb9⟩ := put_any hz (ds := x0.cs) (by rw [hxl]; rfl) (by rw [hxl]; decide)
              refine step_store_rowC rfl _ _ rfl gN rfl x0.cs (by rw [hx0]; rfl) hth9 hxs (pn_one x0) hV9 ?_
              (try simp only [Act.put, zsA, zsB, zsC])
              have hk9 : ∀ j, j ≠ gN → V9.heap[j]? = w4.heap[j]? := fun j hj => by rw [← hV9]; exact heap_setCells_other hj _ _ _
              replace hBw := hb9 _ _ hwN hBw
              replace hS := hS00.then hBw
              replace hch : ChrAt V9 gC (48 + i) := hch.kept (hk9 _ (fun q => chr_ne hch hz q)) (hb9 0 w4 (Nat.zero_le _) (Below.refl _ _)).size
              replace hgr : OwnR 119 2 gcl V9 wr.heap.size x0.av x0.n.acl := by rw [hx0]; exact hgr.keep fun j hj => hk9 j (fun q => hneA (by rw [hj, q]))
              replace hwo : OwnR 2 1 wcl V9 wr.heap.size x0.wv x0.n.words := by rw [hx0]; exact hwo.keep fun j hj => hk9 j (fun q => hneW (by rw [hj, q]))
              replace hneA : x0.av.ownBlock ≠ some gN := by rw [hx0]; exact hneA
              replace hneW : x0.wv.ownBlock ≠ some gN := by rw [hx0]; exact hneW
              replace hneG : ∀ g, x0.wv.ownBlock = some g → x0.av.ownBlock ≠ some g := by rw [hx0]; exact fun g h9 h8 => hneG (by have h7 : gA = g := Option.some.inj h8; rw [h7]; exact h9)
              replace hx0 : Aside (x0.n = segX (D ++ slpS ++ dgS i) d1.n.label 7 ⟨4, 4, 4, 0⟩ (wordsN pp.is)) := by rw [hx0]; exact rfl
              clear hk9 hth9 hb9 hV9 hxs hxl hz
              refine hK.out _ _ (⟨hS, hch⟩) ?_
              clear hHeld hK
              intro hHeld
              (try simp only [Act.put, zsA, zsB, zsC])
              refine wpAnyH_done (by kernel_rfl) ?_ _
              clear hHeld
              go_wp2_with fail
              go_meet
              exact ⟨gN, x0, rfl, hBw, hgo, hwN, hx0.out, hgr, hwo, hneA, hneW, hneG⟩
            refine tkC (fun K hK => ?_) AllReadyH.nil
            have hb := alloc_below w2 (.cells ZNP 36)
            refine step_allocC (z := ZNP) rfl rfl (fun _ => rfl) ?_
            (try simp only [Act.put, zsA, zsB, zsC])
            refine hK.out _ _ (⟨hS.then hb, hch.below hb⟩) ?_
            clear hHeld hK
            intro hHeld
            have hz : BlkL w2.heap.size zeroP.cs (w2.alloc (.cells ZNP 36)) := blkl_alloc w2 ZNP 36
            have hwN : wr.heap.size ≤ w2.heap.size := hBw.size
            have hneA : (Value.slice (some ⟨gA, 0, none⟩) 1 1).ownBlock ≠ some w2.heap.size := fun q => by have h9 : gA = w2.heap.size := Option.some.inj q; have h8 : gA < w2.heap.size := (hgr.lt rfl).2; omega
            replace hBw := Below.then hBw hb
            replace hS := hS.then hb
            replace hch := hch.below hb
            replace hgr := hgr.below hb
            generalize w2.alloc (.cells ZNP 36) = w3 at *
            generalize w2.heap.size = gN at *
            clear hb
            (try simp only [Act.put, zsA, zsB, zsC])
            refine tkR (rs := [17]) ?_
            refine tkC (fun K hK => ?_) AllReadyH.nil
            go_simp
            go_at_call 42
            refine (kwd w3 (hpA'.below in_okW.len (Below.then hBr hBw))).mono ?_
            rintro e w4 ⟨vw, rfl, hwo, hb⟩
            obtain ⟨va, vc, hvw, -, -, -⟩ := hwo.slice wd_okC.len
            subst hvw
            have hBw0 : wr.heap.size ≤ w3.heap.size := hBw.size
            have hneW : (Value.slice va (wordsN pp.is).length vc).ownBlock ≠ some gN := fun q => by have h9 := (hwo.lt q).1; have h8 := hz.2; omega
            have hneG : (Value.slice va (wordsN pp.is).length vc).ownBlock ≠ some gA := fun q => by have h9 := (hwo.lt q).1; have h8 : gA < w3.heap.size := (hgr.lt rfl).2; omega
            replace hBw := Below.then hBw hb
            replace hS := hS.then hb
            replace hch := hch.below hb
            replace hgr := hgr.below hb
            replace hz := stab_blk _ _ _ _ hz hb
            replace hwo : OwnR 2 1 wcl w4 wr.heap.size (Value.slice va (wordsN pp.is).length vc) (wordsN pp.is) := hwo.lower hBw0
            clear hb hBw0
            refine hK.out _ _ (⟨hS, hch⟩) ?_
            clear hHeld hK
            intro hHeld
            (try simp only [Act.put, zsA, zsB, zsC])
            refine tkA 18 ?_
            refine tkR (rs := [20]) ?_
            refine tkC (fun K hK => ?_) AllReadyH.nil
            obtain ⟨x0, hx0⟩ : ∃ x0 : PN, x0 = ⟨segX (D ++ slpS ++ dgS i) d1.n.label 7 ⟨4, 4, 4, 0⟩ (wordsN pp.is), some ⟨gA, 0, none⟩, 1, va, vc⟩ := ⟨_, rfl⟩
            have hxl : x0.cs.length = 16 := pn_len x0
            have hxs : (Tryz.prog.info? 36).map (·.size) = some x0.cs.length := by rw [hxl]; exact hszN
            obtain ⟨V9, hV9, hth9, hgo, hb9⟩ := put_any hz (ds := x0.cs) (by rw [hxl]; rfl) (by rw [hxl]; decide)
            refine step_store_rowC rfl _ _ rfl gN rfl x0.cs (by rw [hx0]; rfl) hth9 hxs (pn_one x0) hV9 ?_
            (try simp only [Act.put, zsA, zsB, zsC])
            have hk9 : ∀ j, j ≠ gN → V9.heap[j]? = w4.heap[j]? := fun j hj => by rw [← hV9]; exact heap_setCells_other hj _ _ _
            replace hBw := hb9 _ _ hwN hBw
            replace hS := hS00.then hBw
            replace hch : ChrAt V9 gC (48 + i) := hch.kept (hk9 _ (fun q => chr_ne hch hz q)) (hb9 0 w4 (Nat.zero_le _) (Below.refl _ _)).size
            replace hgr : OwnR 119 2 gcl V9 wr.heap.size x0.av x0.n.acl := by rw [hx0]; exact hgr.keep fun j hj => hk9 j (fun q => hneA (by rw [hj, q]))
            replace hwo : OwnR 2 1 wcl V9 wr.heap.size x0.wv x0.n.words := by rw [hx0]; exact hwo.keep fun j hj => hk9 j (fun q => hneW (by rw [hj, q]))
            replace hneA : x0.av.ownBlock ≠ some gN := by rw [hx0]; exact hneA
            replace hneW : x0.wv.ownBlock ≠ some gN := by rw [hx0]; exact hneW
            replace hneG : ∀ g, x0.wv.ownBlock = some g → x0.av.ownBlock ≠ some g := by rw [hx0]; exact fun g h9 h8 => hneG (by have h7 : gA = g := Option.some.inj h8; rw [h7]; exact h9)
            replace hx0 : Aside (x0.n = segX (D ++ slpS ++ dgS i) d1.n.label 7 ⟨4, 4, 4, 0⟩ (wordsN pp.is)) := by rw [hx0]; exact rfl
            clear hk9 hth9 hb9 hV9 hxs hxl hz
            refine hK.out _ _ (⟨hS, hch⟩) ?_
            clear hHeld hK
            intro hHeld
            (try simp only [Act.put, zsA, zsB, zsC])
            refine wpAnyH_done (by kernel_rfl) ?_ _
            clear hHeld
            go_wp2_with fail
            go_meet
            exact ⟨gN, x0, rfl, hBw, hgo, hwN, hx0.out, hgr, hwo, hneA, hneW, hneG⟩
          refine tkC (fun K hK => ?_) ?_
          · go_simp
            go_at_call 42
            refine (kwd w1 (hpA'.below in_okW.len (Below.then hBr hBw))).mono ?_
            rintro e w2 ⟨vw, rfl, hwo, hb⟩
            obtain ⟨va, vc, hvw, -, -, -⟩ := hwo.slice wd_okC.len
            subst hvw
            have hBw0 : wr.heap.size ≤ w1.heap.size := hBw.size
            replace hBw := Below.then hBw hb
            replace hS := hS.then hb
            replace hch := hch.below hb
            replace hwo : OwnR 2 1 wcl w2 wr.heap.size (Value.slice va (wordsN pp.is).length vc) (wordsN pp.is) := hwo.lower hBw0
            clear hb hBw0
            refine hK.out _ _ (⟨hS, hch⟩) ?_
            clear hHeld hK
            intro hHeld
            (try simp only [Act.put, zsA, zsB, zsC])
            refine tkR (rs := [11, 19]) ?_
            refine tkC (fun K hK => ?_) ?_
            · skip
              have hb := alloc_below w2 (.cells (gcl ⟨starS, 7⟩).toArray 119)
              refine step_build1 gr_okT (by decide) rfl _ rfl (gcl ⟨starS, 7⟩) rfl rfl ?_
              (try simp only [Act.put, zsA, zsB, zsC])
              refine hK.out _ _ (⟨hS.then hb, hch.below hb⟩) ?_
              clear hHeld hK
              intro hHeld
              have hgr : OwnR 119 2 gcl (w2.alloc (.cells (gcl ⟨starS, 7⟩).toArray 119)) wr.heap.size (.slice (some ⟨w2.heap.size, 0, none⟩) 1 1) [⟨starS, 7⟩] := own_oneP gr_okT w2 hBw.size ⟨starS, 7⟩
              have hneG : (Value.slice va (wordsN pp.is).length vc).ownBlock ≠ some w2.heap.size := fun q => by have := (hwo.lt q).2; omega
              replace hBw := Below.then hBw hb
              replace hS := hS.then hb
              replace hch := hch.below hb
              replace hwo := hwo.below hb
              generalize w2.alloc (.cells (gcl ⟨starS, 7⟩).toArray 119) = w3 at *
              generalize w2.heap.size = gA at *
              clear hb
              (try simp only [Act.put, zsA, zsB, zsC])
              refine tkA 18 ?_
              refine tkR (rs := [19]) ?_
              refine tkC (fun K hK => ?_) AllReadyH.nil
              have hb := alloc_below w3 (.cells ZNP 36)
              refine step_allocC (z := ZNP) rfl rfl (fun _ => rfl) ?_
              (try simp only [Act.put, zsA, zsB, zsC])
              refine hK.out _ _ (⟨hS.then hb, hch.below hb⟩) ?_
              clear hHeld hK
              intro hHeld
              have hz : BlkL w3.heap.size zeroP.cs (w3.alloc (.cells ZNP 36)) := blkl_alloc w3 ZNP 36
              have hwN : wr.heap.size ≤ w3.heap.size := hBw.size
              have hneA : (Value.slice (some ⟨gA, 0, none⟩) 1 1).ownBlock ≠ some w3.heap.size := fun q => by have h9 : gA = w3.heap.size := Option.some.inj q; have h8 : gA < w3.heap.size := (hgr.lt rfl).2; omega
              have hneW : (Value.slice va (wordsN pp.is).length vc).ownBlock ≠ some w3.heap.size := fun q => by have := (hwo.lt q).2; omega
              replace hBw := Below.then hBw hb
              replace hS := hS.then hb
              replace hch := hch.below hb
              replace hgr := hgr.below hb
              replace hwo := hwo.below hb
              generalize w3.alloc (.cells ZNP 36) = w4 at *
              generalize w3.heap.size = gN at *
              clear hb
              (try simp only [Act.put, zsA, zsB, zsC])
              refine tkR (rs := [20]) ?_
              refine tkC (fun K hK => ?_) AllReadyH.nil
              obtain ⟨x0, hx0⟩ : ∃ x0 : PN, x0 = ⟨segX (D ++ slpS ++ dgS i) d1.n.label 7 ⟨4, 4, 4, 0⟩ (wordsN pp.is), some ⟨gA, 0, none⟩, 1, va, vc⟩ := ⟨_, rfl⟩
              have hxl : x0.cs.length = 16 := pn_len x0
              have hxs : (Tryz.prog.info? 36).map (·.size) = some x0.cs.length := by rw [hxl]; exact hszN
              obtain ⟨V9, hV9, hth9, hgo, hb9⟩ := put_any hz (ds := x0.cs) (by rw [hxl]; rfl) (by rw [hxl]; decide)
              refine step_store_rowC rfl _ _ rfl gN rfl x0.cs (by rw [hx0]; rfl) hth9 hxs (pn_one x0) hV9 ?_
              (try simp only [Act.put, zsA, zsB, zsC])
              have hk9 : ∀ j, j ≠ gN → V9.heap[j]? = w4.heap[j]? := fun j hj => by rw [← hV9]; exact heap_setCells_other hj _ _ _
              replace hBw := hb9 _ _ hwN hBw
              replace hS := hS00.then hBw
              replace hch : ChrAt V9 gC (48 + i) := hch.kept (hk9 _ (fun q => chr_ne hch hz q)) (hb9 0 w4 (Nat.zero_le _) (Below.refl _ _)).size
              replace hgr : OwnR 119 2 gcl V9 wr.heap.size x0.av x0.n.acl := by rw [hx0]; exact hgr.keep fun j hj => hk9 j (fun q => hneA (by rw [hj, q]))
              replace hwo : OwnR 2 1 wcl V9 wr.heap.size x0.wv x0.n.words := by rw [hx0]; exact hwo.keep fun j hj => hk9 j (fun q => hneW (by rw [hj, q]))
              replace hneA : x0.av.ownBlock ≠ some gN := by rw [hx0]; exact hneA
              replace hneW : x0.wv.ownBlock ≠ some gN := by rw [hx0]; exact hneW
              replace hneG : ∀ g, x0.wv.ownBlock = some g → x0.av.ownBlock ≠ some g := by rw [hx0]; exact fun g h9 h8 => hneG (by have h7 : gA = g := Option.some.inj h8; rw [h7]; exact h9)
              replace hx0 : Aside (x0.n = segX (D ++ slpS ++ dgS i) d1.n.label 7 ⟨4, 4, 4, 0⟩ (wordsN pp.is)) := by rw [hx0]; exact rfl
              clear hk9 hth9 hb9 hV9 hxs hxl hz
              refine hK.out _ _ (⟨hS, hch⟩) ?_
              clear hHeld hK
              intro hHeld
              (try simp only [Act.put, zsA, zsB, zsC])
              refine wpAnyH_done (by kernel_rfl) ?_ _
              clear hHeld
              go_wp2_with fail
              go_meet
              exact ⟨gN, x0, rfl, hBw, hgo, hwN, hx0.out, hgr, hwo, hneA, hneW, hneG⟩
            refine tkC (fun K hK => ?_) AllReadyH.nil
            have hb := alloc_below w2 (.cells ZNP 36)
            refine step_allocC (z := ZNP) rfl rfl (fun _ => rfl) ?_
            (try simp only [Act.put, zsA, zsB, zsC])
            refine hK.out _ _ (⟨hS.then hb, hch.below hb⟩) ?_
            clear hHeld hK
            intro hHeld
            have hz : BlkL w2.heap.size zeroP.cs (w2.alloc (.cells ZNP 36)) := blkl_alloc w2 ZNP 36
            have hwN : wr.heap.size ≤ w2.heap.size := hBw.size
            have hneW : (Value.slice va (wordsN pp.is).length vc).ownBlock ≠ some w2.heap.size := fun q => by have := (hwo.lt q).2; omega
            replace hBw := Below.then hBw hb
            replace hS := hS.then hb
            replace hch := hch.below hb
            replace hwo := hwo.below hb
            generalize w2.alloc (.cells ZNP 36) = w3 at *
            generalize w2.heap.size = gN at *
            clear hb
            (try simp only [Act.put, zsA, zsB, zsC])
            refine tkR (rs := [11]) ?_
            refine tkC (fun K hK => ?_) AllReadyH.nil
            have hb := alloc_below w3 (.cells (gcl ⟨starS, 7⟩).toArray 119)
            refine step_build1 gr_okT (by decide) rfl _ rfl (gcl ⟨starS, 7⟩) rfl rfl ?_
            (try simp only [Act.put, zsA, zsB, zsC])
            refine hK.out _ _ (⟨hS.then hb, hch.below hb⟩) ?_
            clear hHeld hK
            intro hHeld
            have hgr : OwnR 119 2 gcl (w3.alloc (.cells (gcl ⟨starS, 7⟩).toArray 119)) wr.heap.size (.slice (some ⟨w3.heap.size, 0, none⟩) 1 1) [⟨starS, 7⟩] := own_oneP gr_okT w3 hBw.size ⟨starS, 7⟩
            have hneA : (Value.slice (some ⟨w3.heap.size, 0, none⟩) 1 1).ownBlock ≠ some gN := fun q => by have h9 : w3.heap.size = gN := Option.some.inj q; have h8 := hz.2; omega
            have hneG : (Value.slice va (wordsN pp.is).length vc).ownBlock ≠ some w3.heap.size := fun q => by have := (hwo.lt q).2; omega
            replace hBw := Below.then hBw hb
            replace hS := hS.then hb
            replace hch := hch.below hb
            replace hwo := hwo.below hb
            replace hz := stab_blk _ _ _ _ hz hb
            generalize w3.alloc (.cells (gcl ⟨starS, 7⟩).toArray 119) = w4 at *
            generalize w3.heap.size = gA at *
            clear hb
            (try simp only [Act.put, zsA, zsB, zsC])
            refine tkA 18 ?_
            refine tkR (rs := [20]) ?_
            refine tkC (fun K hK => ?_) AllReadyH.nil
            obtain ⟨x0, hx0⟩ : ∃ x0 : PN, x0 = ⟨segX (D ++ slpS ++ dgS i) d1.n.label 7 ⟨4, 4, 4, 0⟩ (wordsN pp.is), some ⟨gA, 0, none⟩, 1, va, vc⟩ := ⟨_, rfl⟩
            have hxl : x0.cs.length = 16 := pn_len x0
            have hxs : (Tryz.prog.info? 36).map (·.size) = some x0.cs.length := by rw [hxl]; exact hszN
            obtain ⟨V9, hV9, hth9, hgo, hb9⟩ := put_any hz (ds := x0.cs) (by rw [hxl]; rfl) (by rw [hxl]; decide)
            refine step_store_rowC rfl _ _ rfl gN rfl x0.cs (by rw [hx0]; rfl) hth9 hxs (pn_one x0) hV9 ?_
            (try simp only [Act.put, zsA, zsB, zsC])
            have hk9 : ∀ j, j ≠ gN → V9.heap[j]? = w4.heap[j]? := fun j hj => by rw [← hV9]; exact heap_setCells_other hj _ _ _
            replace hBw := hb9 _ _ hwN hBw
            replace hS := hS00.then hBw
            replace hch : ChrAt V9 gC (48 + i) := hch.kept (hk9 _ (fun q => chr_ne hch hz q)) (hb9 0 w4 (Nat.zero_le _) (Below.refl _ _)).size
            replace hgr : OwnR 119 2 gcl V9 wr.heap.size x0.av x0.n.acl := by rw [hx0]; exact hgr.keep fun j hj => hk9 j (fun q => hneA (by rw [hj, q]))
            replace hwo : OwnR 2 1 wcl V9 wr.heap.size x0.wv x0.n.words := by rw [hx0]; exact hwo.keep fun j hj => hk9 j (fun q => hneW (by rw [hj, q]))
            replace hneA : x0.av.ownBlock ≠ some gN := by rw [hx0]; exact hneA
            replace hneW : x0.wv.ownBlock ≠ some gN := by rw [hx0]; exact hneW
            replace hneG : ∀ g, x0.wv.ownBlock = some g → x0.av.ownBlock ≠ some g := by rw [hx0]; exact fun g h9 h8 => hneG (by have h7 : gA = g := Option.some.inj h8; rw [h7]; exact h9)
            replace hx0 : Aside (x0.n = segX (D ++ slpS ++ dgS i) d1.n.label 7 ⟨4, 4, 4, 0⟩ (wordsN pp.is)) := by rw [hx0]; exact rfl
            clear hk9 hth9 hb9 hV9 hxs hxl hz
            refine hK.out _ _ (⟨hS, hch⟩) ?_
            clear hHeld hK
            intro hHeld
            (try simp only [Act.put, zsA, zsB, zsC])
            refine wpAnyH_done (by kernel_rfl) ?_ _
            clear hHeld
            go_wp2_with fail
            go_meet
            exact ⟨gN, x0, rfl, hBw, hgo, hwN, hx0.out, hgr, hwo, hneA, hneW, hneG⟩
          refine tkC (fun K hK => ?_) AllReadyH.nil
          have hb := alloc_below w1 (.cells ZNP 36)
          refine step_allocC (z := ZNP) rfl rfl (fun _ => rfl) ?_
          (try simp only [Act.put, zsA, zsB, zsC])
          refine hK.out _ _ (⟨hS.then hb, hch.below hb⟩) ?_
          clear hHeld hK
          intro hHeld
          have hz : BlkL w1.heap.size zeroP.cs (w1.alloc (.cells ZNP 36)) := blkl_alloc w1 ZNP 36
          have hwN : wr.heap.size ≤ w1.heap.size := hBw.size
          replace hBw := Below.then hBw hb
          replace hS := hS.then hb
          replace hch := hch.below hb
          generalize w1.alloc (.cells ZNP 36) = w2 at *
          generalize w1.heap.size = gN at *
          clear hb
          (try simp only [Act.put, zsA, zsB, zsC])
          refine tkR (rs := [11, 17]) ?_
          refine tkC (fun K hK => ?_) ?_
          · skip
            have hb := alloc_below w2 (.cells (gcl ⟨starS, 7⟩).toArray 119)
            refine step_build1 gr_okT (by decide) rfl _ rfl (gcl ⟨starS, 7⟩) rfl rfl ?_
            (try simp only [Act.put, zsA, zsB, zsC])
            refine hK.out _ _ (⟨hS.then hb, hch.below hb⟩) ?_
            clear hHeld hK
            intro hHeld
            have hgr : OwnR 119 2 gcl (w2.alloc (.cells (gcl ⟨starS, 7⟩).toArray 119)) wr.heap.size (.slice (some ⟨w2.heap.size, 0, none⟩) 1 1) [⟨starS, 7⟩] := own_oneP gr_okT w2 hBw.size ⟨starS, 7⟩
            have hneA : (Value.slice (some ⟨w2.heap.size, 0, none⟩) 1 1).ownBlock ≠ some gN := fun q => by have h9 : w2.heap.size = gN := Option.some.inj q; have h8 := hz.2; omega
            replace hBw := Below.then hBw hb
            replace hS := hS.then hb
            replace hch := hch.below hb
            replace hz := stab_blk _ _ _ _ hz hb
            generalize w2.alloc (.cells (gcl ⟨starS, 7⟩).toArray 119) = w3 at *
            generalize w2.heap.size = gA at *
            clear hb
            (try simp only [Act.put, zsA, zsB, zsC])
            refine tkR (rs := [17]) ?_
            refine tkC (fun K hK => ?_) AllReadyH.nil
            go_simp
            go_at_call 42
            refine (kwd w3 (hpA'.below in_okW.len (Below.then hBr hBw))).mono ?_
            rintro e w4 ⟨vw, rfl, hwo, hb⟩
            obtain ⟨va, vc, hvw, -, -, -⟩ := hwo.slice wd_okC.len
            subst hvw
            have hBw0 : wr.heap.size ≤ w3.heap.size := hBw.size
            have hneW : (Value.slice va (wordsN pp.is).length vc).ownBlock ≠ some gN := fun q => by have h9 := (hwo.lt q).1; have h8 := hz.2; omega
            have hneG : (Value.slice va (wordsN pp.is).length vc).ownBlock ≠ some gA := fun q => by have h9 := (hwo.lt q).1; have h8 : gA < w3.heap.size := (hgr.lt rfl).2; omega
            replace hBw := Below.then hBw hb
            replace hS := hS.then hb
            replace hch := hch.below hb
            replace hgr := hgr.below hb
            replace hz := stab_blk _ _ _ _ hz hb
            replace hwo : OwnR 2 1 wcl w4 wr.heap.size (Value.slice va (wordsN pp.is).length vc) (wordsN pp.is) := hwo.lower hBw0
            clear hb hBw0
            refine hK.out _ _ (⟨hS, hch⟩) ?_
            clear hHeld hK
            intro hHeld
            (try simp only [Act.put, zsA, zsB, zsC])
            refine tkA 18 ?_
            refine tkR (rs := [20]) ?_
            refine tkC (fun K hK => ?_) AllReadyH.nil
            obtain ⟨x0, hx0⟩ : ∃ x0 : PN, x0 = ⟨segX (D ++ slpS ++ dgS i) d1.n.label 7 ⟨4, 4, 4, 0⟩ (wordsN pp.is), some ⟨gA, 0, none⟩, 1, va, vc⟩ := ⟨_, rfl⟩
            have hxl : x0.cs.length = 16 := pn_len x0
            have hxs : (Tryz.prog.info? 36).map (·.size) = some x0.cs.length := by rw [hxl]; exact hszN
            obtain ⟨V9, hV9, hth9, hgo, hb9⟩ := put_any hz (ds := x0.cs) (by rw [hxl]; rfl) (by rw [hxl]; decide)
            refine step_store_rowC rfl _ _ rfl gN rfl x0.cs (by rw [hx0]; rfl) hth9 hxs (pn_one x0) hV9 ?_
            (try simp only [Act.put, zsA, zsB, zsC])
            have hk9 : ∀ j, j ≠ gN → V9.heap[j]? = w4.heap[j]? := fun j hj => by rw [← hV9]; exact heap_setCells_other hj _ _ _
            replace hBw := hb9 _ _ hwN hBw
            replace hS := hS00.then hBw
            replace hch : ChrAt V9 gC (48 + i) := hch.kept (hk9 _ (fun q => chr_ne hch hz q)) (hb9 0 w4 (Nat.zero_le _) (Below.refl _ _)).size
            replace hgr : OwnR 119 2 gcl V9 wr.heap.size x0.av x0.n.acl := by rw [hx0]; exact hgr.keep fun j hj => hk9 j (fun q => hneA (by rw [hj, q]))
            replace hwo : OwnR 2 1 wcl V9 wr.heap.size x0.wv x0.n.words := by rw [hx0]; exact hwo.keep fun j hj => hk9 j (fun q => hneW (by rw [hj, q]))
            replace hneA : x0.av.ownBlock ≠ some gN := by rw [hx0]; exact hneA
            replace hneW : x0.wv.ownBlock ≠ some gN := by rw [hx0]; exact hneW
            replace hneG : ∀ g, x0.wv.ownBlock = some g → x0.av.ownBlock ≠ some g := by rw [hx0]; exact fun g h9 h8 => hneG (by have h7 : gA = g := Option.some.inj h8; rw [h7]; exact h9)
            replace hx0 : Aside (x0.n = segX (D ++ slpS ++ dgS i) d1.n.label 7 ⟨4, 4, 4, 0⟩ (wordsN pp.is)) := by rw [hx0]; exact rfl
            clear hk9 hth9 hb9 hV9 hxs hxl hz
            refine hK.out _ _ (⟨hS, hch⟩) ?_
            clear hHeld hK
            intro hHeld
            (try simp only [Act.put, zsA, zsB, zsC])
            refine wpAnyH_done (by kernel_rfl) ?_ _
            clear hHeld
            go_wp2_with fail
            go_meet
            exact ⟨gN, x0, rfl, hBw, hgo, hwN, hx0.out, hgr, hwo, hneA, hneW, hneG⟩
          refine tkC (fun K hK => ?_) AllReadyH.nil
          go_simp
          go_at_call 42
          refine (kwd w2 (hpA'.below in_okW.len (Below.then hBr hBw))).mono ?_
          rintro e w3 ⟨vw, rfl, hwo, hb⟩
          obtain ⟨va, vc, hvw, -, -, -⟩ := hwo.slice wd_okC.len
          subst hvw
          have hBw0 : wr.heap.size ≤ w2.heap.size := hBw.size
          have hneW : (Value.slice va (wordsN pp.is).length vc).ownBlock ≠ some gN := fun q => by have h9 := (hwo.lt q).1; have h8 := hz.2; omega
          replace hBw := Below.then hBw hb
          replace hS := hS.then hb
          replace hch := hch.below hb
          replace hz := stab_blk _ _ _ _ hz hb
          replace hwo : OwnR 2 1 wcl w3 wr.heap.size (Value.slice va (wordsN pp.is).length vc) (wordsN pp.is) := hwo.lower hBw0
          clear hb hBw0
          refine hK.out _ _ (⟨hS, hch⟩) ?_
          clear hHeld hK
          intro hHeld
          (try simp only [Act.put, zsA, zsB, zsC])
          refine tkR (rs := [11]) ?_
          refine tkC (fun K hK => ?_) AllReadyH.nil
          have hb := alloc_below w3 (.cells (gcl ⟨starS, 7⟩).toArray 119)
          refine step_build1 gr_okT (by decide) rfl _ rfl (gcl ⟨starS, 7⟩) rfl rfl ?_
          (try simp only [Act.put, zsA, zsB, zsC])
          refine hK.out _ _ (⟨hS.then hb, hch.below hb⟩) ?_
          clear hHeld hK
          intro hHeld
          have hgr : OwnR 119 2 gcl (w3.alloc (.cells (gcl ⟨starS, 7⟩).toArray 119)) wr.heap.size (.slice (some ⟨w3.heap.size, 0, none⟩) 1 1) [⟨starS, 7⟩] := own_oneP gr_okT w3 hBw.size ⟨starS, 7⟩
          have hneA : (Value.slice (some ⟨w3.heap.size, 0, none⟩) 1 1).ownBlock ≠ some gN := fun q => by have h9 : w3.heap.size = gN := Option.some.inj q; have h8 := hz.2; omega
          have hneG : (Value.slice va (wordsN pp.is).length vc).ownBlock ≠ some w3.heap.size := fun q => by have := (hwo.lt q).2; omega
          replace hBw := Below.then hBw hb
          replace hS := hS.then hb
          replace hch := hch.below hb
          replace hwo := hwo.below hb
          replace hz := stab_blk _ _ _ _ hz hb
          generalize w3.alloc (.cells (gcl ⟨starS, 7⟩).toArray 119) = w4 at *
          generalize w3.heap.size = gA at *
          clear hb
          (try simp only [Act.put, zsA, zsB, zsC])
          refine tkA 18 ?_
          refine tkR (rs := [20]) ?_
          refine tkC (fun K hK => ?_) AllReadyH.nil
          obtain ⟨x0, hx0⟩ : ∃ x0 : PN, x0 = ⟨segX (D ++ slpS ++ dgS i) d1.n.label 7 ⟨4, 4, 4, 0⟩ (wordsN pp.is), some ⟨gA, 0, none⟩, 1, va, vc⟩ := ⟨_, rfl⟩
          have hxl : x0.cs.length = 16 := pn_len x0
          have hxs : (Tryz.prog.info? 36).map (·.size) = some x0.cs.length := by rw [hxl]; exact hszN
          obtain ⟨V9, hV9, hth9, hgo, hb9⟩ := put_any hz (ds := x0.cs) (by rw [hxl]; rfl) (by rw [hxl]; decide)
          refine step_store_rowC rfl _ _ rfl gN rfl x0.cs (by rw [hx0]; rfl) hth9 hxs (pn_one x0) hV9 ?_
          (try simp only [Act.put, zsA, zsB, zsC])
          have hk9 : ∀ j, j ≠ gN → V9.heap[j]? = w4.heap[j]? := fun j hj => by rw [← hV9]; exact heap_setCells_other hj _ _ _
          replace hBw := hb9 _ _ hwN hBw
          replace hS := hS00.then hBw
          replace hch : ChrAt V9 gC (48 + i) := hch.kept (hk9 _ (fun q => chr_ne hch hz q)) (hb9 0 w4 (Nat.zero_le _) (Below.refl _ _)).size
          replace hgr : OwnR 119 2 gcl V9 wr.heap.size x0.av x0.n.acl := by rw [hx0]; exact hgr.keep fun j hj => hk9 j (fun q => hneA (by rw [hj, q]))
          replace hwo : OwnR 2 1 wcl V9 wr.heap.size x0.wv x0.n.words := by rw [hx0]; exact hwo.keep fun j hj => hk9 j (fun q => hneW (by rw [hj, q]))
          replace hneA : x0.av.ownBlock ≠ some gN := by rw [hx0]; exact hneA
          replace hneW : x0.wv.ownBlock ≠ some gN := by rw [hx0]; exact hneW
          replace hneG : ∀ g, x0.wv.ownBlock = some g → x0.av.ownBlock ≠ some g := by rw [hx0]; exact fun g h9 h8 => hneG (by have h7 : gA = g := Option.some.inj h8; rw [h7]; exact h9)
          replace hx0 : Aside (x0.n = segX (D ++ slpS ++ dgS i) d1.n.label 7 ⟨4, 4, 4, 0⟩ (wordsN pp.is)) := by rw [hx0]; exact rfl
          clear hk9 hth9 hb9 hV9 hxs hxl hz
          refine hK.out _ _ (⟨hS, hch⟩) ?_
          clear hHeld hK
          intro hHeld
          (try simp only [Act.put, zsA, zsB, zsC])
          refine wpAnyH_done (by kernel_rfl) ?_ _
          clear hHeld
          go_wp2_with fail
          go_meet
          exact ⟨gN, x0, rfl, hBw, hgo, hwN, hx0.out, hgr, hwo, hneA, hneW, hneG⟩
        refine tkC (fun K hK => ?_) ?_
        · skip
          have hb := alloc_below w0 (.cells (gcl ⟨starS, 7⟩).toArray 119)
          refine step_build1 gr_okT (by decide) rfl _ rfl (gcl ⟨starS, 7⟩) rfl rfl ?_
          (try simp only [Act.put, zsA, zsB, zsC])
          refine hK.out _ _ (hS.then hb) ?_
          clear hHeld hK
          intro hHeld
          have hgr : OwnR 119 2 gcl (w0.alloc (.cells (gcl ⟨starS, 7⟩).toArray 119)) wr.heap.size (.slice (some ⟨w0.heap.size, 0, none⟩) 1 1) [⟨starS, 7⟩] := own_oneP gr_okT w0 hBw.size ⟨starS, 7⟩
          replace hBw := Below.then hBw hb
          replace hS := hS.then hb
          generalize w0.alloc (.cells (gcl ⟨starS, 7⟩).toArray 119) = w1 at *
          generalize w0.heap.size = gA at *
          clear hb
          (try simp only [Act.put, zsA, zsB, zsC])
          refine tkR (rs := [5, 17, 19]) ?_
          refine tkC (fun K hK => ?_) ?_
          · go_simp
            have hb := alloc_below w1 (.cells #[.int .u8 (48 + (i : Int))] 5)
            refine hK.out _ _ (hS.then hb) ?_
            clear hHeld hK
            intro hHeld
            have hch : ChrAt (w1.alloc (.cells #[.int .u8 (48 + (i : Int))] 5)) w1.heap.size (48 + i) := chr_made2 w1 i (by omega)
            replace hBw := Below.then hBw hb
            replace hS := hS.then hb
            replace hgr := hgr.below hb
            generalize w1.alloc (.cells #[.int .u8 (48 + (i : Int))] 5) = w2 at *
            generalize w1.heap.size = gC at *
            clear hb
            refine wpAnyH_strong (S' := fun W => PX wr nd d1 yp i pp W ∧ ChrAt W gC (48 + i)) (fun _ h => h.1) ?_
            replace hHeld : PX wr nd d1 yp i pp w2 ∧ ChrAt w2 gC (48 + i) := ⟨hS, hch⟩
            (try simp only [Act.put, zsA, zsB, zsC])
            refine tkB 6 (y := yields_conv (by rfl) _ rfl rfl (fun _ s => s.2.conv)) (h := ?_)
            refine tkA 7 ?_
            refine tkR (rs := [17, 19]) ?_
            refine tkC (fun K hK => ?_) ?_
            · go_simp
              go_at_call 42
              refine (kwd w2 (hpA'.below in_okW.len (Below.then hBr hBw))).mono ?_
              rintro e w3 ⟨vw, rfl, hwo, hb⟩
              obtain ⟨va, vc, hvw, -, -, -⟩ := hwo.slice wd_okC.len
              subst hvw
              have hBw0 : wr.heap.size ≤ w2.heap.size := hBw.size
              have hneG : (Value.slice va (wordsN pp.is).length vc).ownBlock ≠ some gA := fun q => by have h9 := (hwo.lt q).1; have h8 : gA < w2.heap.size := (hgr.lt rfl).2; omega
              replace hBw := Below.then hBw hb
              replace hS := hS.then hb
              replace hch := hch.below hb
              replace hgr := hgr.below hb
              replace hwo : OwnR 2 1 wcl w3 wr.heap.size (Value.slice va (wordsN pp.is).length vc) (wordsN pp.is) := hwo.lower hBw0
              clear hb hBw0
              refine hK.out _ _ (⟨hS, hch⟩) ?_
              clear hHeld hK
              intro hHeld
              (try simp only [Act.put, zsA, zsB, zsC])
              refine tkA 18 ?_
              refine tkR (rs := [19]) ?_
              refine tkC (fun K hK => ?_) AllReadyH.nil
              have hb := alloc_below w3 (.cells ZNP 36)
              refine step_allocC (z := ZNP) rfl rfl (fun _ => rfl) ?_
              (try simp only [Act.put, zsA, zsB, zsC])
              refine hK.out _ _ (⟨hS.then hb, hch.below hb⟩) ?_
              clear hHeld hK
              intro hHeld
              have hz : BlkL w3.heap.size zeroP.cs (w3.alloc (.cells ZNP 36)) := blkl_alloc w3 ZNP 36
              have hwN : wr.heap.size ≤ w3.heap.size := hBw.size
              have hneA : (Value.slice (some ⟨gA, 0, none⟩) 1 1).ownBlock ≠ some w3.heap.size := fun q => by have h9 : gA = w3.heap.size := Option.some.inj q; have h8 : gA < w3.heap.size := (hgr.lt rfl).2; omega
              have hneW : (Value.slice va (wordsN pp.is).length vc).ownBlock ≠ some w3.heap.size := fun q => by have := (hwo.lt q).2; omega
              replace hBw := Below.then hBw hb
              replace hS := hS.then hb
              replace hch := hch.below hb
              replace hgr := hgr.below hb
              replace hwo := hwo.below hb
              generalize w3.alloc (.cells ZNP 36) = w4 at *
              generalize w3.heap.size = gN at *
              clear hb
              (try simp only [Act.put, zsA, zsB, zsC])
              refine tkR (rs := [20]) ?_
              refine tkC (fun K hK => ?_) AllReadyH.nil
              obtain ⟨x0, hx0⟩ : ∃ x0 : PN, x0 = ⟨segX (D ++ slpS ++ dgS i) d1.n.label 7 ⟨4, 4, 4, 0⟩ (wordsN pp.is), some ⟨gA, 0, none⟩, 1, va, vc⟩ := ⟨_, rfl⟩
              have hxl : x0.cs.length = 16 := pn_len x0
              have hxs : (Tryz.prog.info? 36).map (·.size) = some x0.cs.length := by rw [hxl]; exact hszN
              obtain ⟨V9, hV9, hth9, hgo, hb9⟩ := put_any hz (ds := x0.cs) (by rw [hxl]; rfl) (by rw [hxl]; decide)
              refine step_store_rowC rfl _ _ rfl gN rfl x0.cs (by rw [hx0]; rfl) hth9 hxs (pn_one x0) hV9 ?_
              (try simp only [Act.put, zsA, zsB, zsC])
              have hk9 : ∀ j, j ≠ gN → V9.heap[j]? = w4.heap[j]? := fun j hj => by rw [← hV9]; exact heap_setCells_other hj _ _ _
              replace hBw := hb9 _ _ hwN hBw
              replace hS := hS00.then hBw
              replace hch : ChrAt V9 gC (48 + i) := hch.kept (hk9 _ (fun q => chr_ne hch hz q)) (hb9 0 w4 (Nat.zero_le _) (Below.refl _ _)).size
              replace hgr : OwnR 119 2 gcl V9 wr.heap.size x0.av x0.n.acl := by rw [hx0]; exact hgr.keep fun j hj => hk9 j (fun q => hneA (by rw [hj, q]))
              replace hwo : OwnR 2 1 wcl V9 wr.heap.size x0.wv x0.n.words := by rw [hx0]; exact hwo.keep fun j hj => hk9 j (fun q => hneW (by rw [hj, q]))
              replace hneA : x0.av.ownBlock ≠ some gN := by rw [hx0]; exact hneA
              replace hneW : x0.wv.ownBlock ≠ some gN := by rw [hx0]; exact hneW
              replace hneG : ∀ g, x0.wv.ownBlock = some g → x0.av.ownBlock ≠ some g := by rw [hx0]; exact fun g h9 h8 => hneG (by have h7 : gA = g := Option.some.inj h8; rw [h7]; exact h9)
              replace hx0 : Aside (x0.n = segX (D ++ slpS ++ dgS i) d1.n.label 7 ⟨4, 4, 4, 0⟩ (wordsN pp.is)) := by rw [hx0]; exact rfl
              clear hk9 hth9 hb9 hV9 hxs hxl hz
              refine hK.out _ _ (⟨hS, hch⟩) ?_
              clear hHeld hK
              intro hHeld
              (try simp only [Act.put, zsA, zsB, zsC])
              refine wpAnyH_done (by kernel_rfl) ?_ _
              clear hHeld
              go_wp2_with fail
              go_meet
              exact ⟨gN, x0, rfl, hBw, hgo, hwN, hx0.out, hgr, hwo, hneA, hneW, hneG⟩
            refine tkC (fun K hK => ?_) AllReadyH.nil
            have hb := alloc_below w2 (.cells ZNP 36)
            refine step_allocC (z := ZNP) rfl rfl (fun _ => rfl) ?_
            (try simp only [Act.put, zsA, zsB, zsC])
            refine hK.out _ _ (⟨hS.then hb, hch.below hb⟩) ?_
            clear hHeld hK
            intro hHeld
            have hz : BlkL w2.heap.size zeroP.cs (w2.alloc (.cells ZNP 36)) := blkl_alloc w2 ZNP 36
            have hwN : wr.heap.size ≤ w2.heap.size := hBw.size
            have hneA : (Value.slice (some ⟨gA, 0, none⟩) 1 1).ownBlock ≠ some w2.heap.size := fun q => by have h9 : gA = w2.heap.size := Option.some.inj q; have h8 : gA < w2.heap.size := (hgr.lt rfl).2; omega
            replace hBw := Below.then hBw hb
            replace hS := hS.then hb
            replace hch := hch.below hb
            replace hgr := hgr.below hb
            generalize w2.alloc (.cells ZNP 36) = w3 at *
            generalize w2.heap.size = gN at *
            clear hb
            (try simp only [Act.put, zsA, zsB, zsC])
            refine tkR (rs := [17]) ?_
            refine tkC (fun K hK => ?_) AllReadyH.nil
            go_simp
            go_at_call 42
            refine (kwd w3 (hpA'.below in_okW.len (Below.then hBr hBw))).mono ?_
            rintro e w4 ⟨vw, rfl, hwo, hb⟩
            obtain ⟨va, vc, hvw, -, -, -⟩ := hwo.slice wd_okC.len
            subst hvw
            have hBw0 : wr.heap.size ≤ w3.heap.size := hBw.size
            have hneW : (Value.slice va (wordsN pp.is).length vc).ownBlock ≠ some gN := fun q => by have h9 := (hwo.lt q).1; have h8 := hz.2; omega
            have hneG : (Value.slice va (wordsN pp.is).length vc).ownBlock ≠ some gA := fun q => by have h9 := (hwo.lt q).1; have h8 : gA < w3.heap.size := (hgr.lt rfl).2; omega
            replace hBw := Below.then hBw hb
            replace hS := hS.then hb
            replace hch := hch.below hb
            replace hgr := hgr.below hb
            replace hz := stab_blk _ _ _ _ hz hb
            replace hwo : OwnR 2 1 wcl w4 wr.heap.size (Value.slice va (wordsN pp.is).length vc) (wordsN pp.is) := hwo.lower hBw0
            clear hb hBw0
            refine hK.out _ _ (⟨hS, hch⟩) ?_
            clear hHeld hK
            intro hHeld
            (try simp only [Act.put, zsA, zsB, zsC])
            refine tkA 18 ?_
            refine tkR (rs := [20]) ?_
            refine tkC (fun K hK => ?_) AllReadyH.nil
            obtain ⟨x0, hx0⟩ : ∃ x0 : PN, x0 = ⟨segX (D ++ slpS ++ dgS i) d1.n.label 7 ⟨4, 4, 4, 0⟩ (wordsN pp.is), some ⟨gA, 0, none⟩, 1, va, vc⟩ := ⟨_, rfl⟩
            have hxl : x0.cs.length = 16 := pn_len x0
            have hxs : (Tryz.prog.info? 36).map (·.size) = some x0.cs.length := by rw [hxl]; exact hszN
            obtain ⟨V9, hV9, hth9, hgo, hb9⟩ := put_any hz (ds := x0.cs) (by rw [hxl]; rfl) (by rw [hxl]; decide)
            refine step_store_rowC rfl _ _ rfl gN rfl x0.cs (by rw [hx0]; rfl) hth9 hxs (pn_one x0) hV9 ?_
            (try simp only [Act.put, zsA, zsB, zsC])
            have hk9 : ∀ j, j ≠ gN → V9.heap[j]? = w4.heap[j]? := fun j hj => by rw [← hV9]; exact heap_setCells_other hj _ _ _
            replace hBw := hb9 _ _ hwN hBw
            replace hS := hS00.then hBw
            replace hch : ChrAt V9 gC (48 + i) := hch.kept (hk9 _ (fun q => chr_ne hch hz q)) (hb9 0 w4 (Nat.zero_le _) (Below.refl _ _)).size
            replace hgr : OwnR 119 2 gcl V9 wr.heap.size x0.av x0.n.acl := by rw [hx0]; exact hgr.keep fun j hj => hk9 j (fun q => hneA (by rw [hj, q]))
            replace hwo : OwnR 2 1 wcl V9 wr.heap.size x0.wv x0.n.words := by rw [hx0]; exact hwo.keep fun j hj => hk9 j (fun q => hneW (by rw [hj, q]))
            replace hneA : x0.av.ownBlock ≠ some gN := by rw [hx0]; exact hneA
            replace hneW : x0.wv.ownBlock ≠ some gN := by rw [hx0]; exact hneW
            replace hneG : ∀ g, x0.wv.ownBlock = some g → x0.av.ownBlock ≠ some g := by rw [hx0]; exact fun g h9 h8 => hneG (by have h7 : gA = g := Option.some.inj h8; rw [h7]; exact h9)
            replace hx0 : Aside (x0.n = segX (D ++ slpS ++ dgS i) d1.n.label 7 ⟨4, 4, 4, 0⟩ (wordsN pp.is)) := by rw [hx0]; exact rfl
            clear hk9 hth9 hb9 hV9 hxs hxl hz
            refine hK.out _ _ (⟨hS, hch⟩) ?_
            clear hHeld hK
            intro hHeld
            (try simp only [Act.put, zsA, zsB, zsC])
            refine wpAnyH_done (by kernel_rfl) ?_ _
            clear hHeld
            go_wp2_with fail
            go_meet
            exact ⟨gN, x0, rfl, hBw, hgo, hwN, hx0.out, hgr, hwo, hneA, hneW, hneG⟩
          refine tkC (fun K hK => ?_) ?_
          · go_simp
            go_at_call 42
            refine (kwd w1 (hpA'.below in_okW.len (Below.then hBr hBw))).mono ?_
            rintro e w2 ⟨vw, rfl, hwo, hb⟩
            obtain ⟨va, vc, hvw, -, -, -⟩ := hwo.slice wd_okC.len
            subst hvw
            have hBw0 : wr.heap.size ≤ w1.heap.size := hBw.size
            have hneG : (Value.slice va (wordsN pp.is).length vc).ownBlock ≠ some gA := fun q => by have h9 := (hwo.lt q).1; have h8 : gA < w1.heap.size := (hgr.lt rfl).2; omega
            replace hBw := Below.then hBw hb
            replace hS := hS.then hb
            replace hgr := hgr.below hb
            replace hwo : OwnR 2 1 wcl w2 wr.heap.size (Value.slice va (wordsN pp.is).length vc) (wordsN pp.is) := hwo.lower hBw0
            clear hb hBw0
            refine hK.out _ _ (hS) ?_
            clear hHeld hK
            intro hHeld
            (try simp only [Act.put, zsA, zsB, zsC])
            refine tkR (rs := [5, 19]) ?_
            refine tkC (fun K hK => ?_) ?_
            · go_simp
              have hb := alloc_below w2 (.cells #[.int .u8 (48 + (i : Int))] 5)
              refine hK.out _ _ (hS.then hb) ?_
              clear hHeld hK
              intro hHeld
              have hch : ChrAt (w2.alloc (.cells #[.int .u8 (48 + (i : Int))] 5)) w2.heap.size (48 + i) := chr_made2 w2 i (by omega)
              replace hBw := Below.then hBw hb
              replace hS := hS.then hb
              replace hgr := hgr.below hb
              replace hwo := hwo.below hb
              generalize w2.alloc (.cells #[.int .u8 (48 + (i : Int))] 5) = w3 at *
              generalize w2.heap.size = gC at *
              clear hb
              refine wpAnyH_strong (S' := fun W => PX wr nd d1 yp i pp W ∧ ChrAt W gC (48 + i)) (fun _ h => h.1) ?_
              replace hHeld : PX wr nd d1 yp i pp w3 ∧ ChrAt w3 gC (48 + i) := ⟨hS, hch⟩
              (try simp only [Act.put, zsA, zsB, zsC])
              refine tkB 6 (y := yields_conv (by rfl) _ rfl rfl (fun _ s => s.2.conv)) (h := ?_)
              refine tkA 7 ?_
              refine tkA 18 ?_
              refine tkR (rs := [19]) ?_
              refine tkC (fun K hK => ?_) AllReadyH.nil
              have hb := alloc_below w3 (.cells ZNP 36)
              refine step_allocC (z := ZNP) rfl rfl (fun _ => rfl) ?_
              (try simp only [Act.put, zsA, zsB, zsC])
              refine hK.out _ _ (⟨hS.then hb, hch.below hb⟩) ?_
              clear hHeld hK
              intro hHeld
              have hz : BlkL w3.heap.size zeroP.cs (w3.alloc (.cells ZNP 36)) := blkl_alloc w3 ZNP 36
              have hwN : wr.heap.size ≤ w3.heap.size := hBw.size
              have hneA : (Value.slice (some ⟨gA, 0, none⟩) 1 1).ownBlock ≠ some w3.heap.size := fun q => by have h9 : gA = w3.heap.size := Option.some.inj q; have h8 : gA < w3.heap.size := (hgr.lt rfl).2; omega
              have hneW : (Value.slice va (wordsN pp.is).length vc).ownBlock ≠ some w3.heap.size := fun q => by have := (hwo.lt q).2; omega
              replace hBw := Below.then hBw hb
              replace hS := hS.then hb
              replace hch := hch.below hb
              replace hgr := hgr.below hb
              replace hwo := hwo.below hb
              generalize w3.alloc (.cells ZNP 36) = w4 at *
              generalize w3.heap.size = gN at *
              clear hb
              (try simp only [Act.put, zsA, zsB, zsC])
              refine tkR (rs := [20]) ?_
              refine tkC (fun K hK => ?_) AllReadyH.nil
              obtain ⟨x0, hx0⟩ : ∃ x0 : PN, x0 = ⟨segX (D ++ slpS ++ dgS i) d1.n.label 7 ⟨4, 4, 4, 0⟩ (wordsN pp.is), some ⟨gA, 0, none⟩, 1, va, vc⟩ := ⟨_, rfl⟩
              have hxl : x0.cs.length = 16 := pn_len x0
              have hxs : (Tryz.prog.info? 36).map (·.size) = some x0.cs.length := by rw [hxl]; exact hszN
              obtain ⟨V9, hV9, hth9, hgo, hb9⟩ := put_any hz (ds := x0.cs) (by rw [hxl]; rfl) (by rw [hxl]; decide)
              refine step_store_rowC rfl _ _ rfl gN rfl x0.cs (by rw [hx0]; rfl) hth9 hxs (pn_one x0) hV9 ?_
              (try simp only [Act.put, zsA, zsB, zsC])
              have hk9 : ∀ j, j ≠ gN → V9.heap[j]? = w4.heap[j]? := fun j hj => by rw [← hV9]; exact heap_setCells_other hj _ _ _
              replace hBw := hb9 _ _ hwN hBw
              replace hS := hS00.then hBw
              replace hch : ChrAt V9 gC (48 + i) := hch.kept (hk9 _ (fun q => chr_ne hch hz q)) (hb9 0 w4 (Nat.zero_le _) (Below.refl _ _)).size
              replace hgr : OwnR 119 2 gcl V9 wr.heap.size x0.av x0.n.acl := by rw [hx0]; exact hgr.keep fun j hj => hk9 j (fun q => hneA (by rw [hj, q]))
              replace hwo : OwnR 2 1 wcl V9 wr.heap.size x0.wv x0.n.words := by rw [hx0]; exact hwo.keep fun j hj => hk9 j (fun q => hneW (by rw [hj, q]))
              replace hneA : x0.av.ownBlock ≠ some gN := by rw [hx0]; exact hneA
              replace hneW : x0.wv.ownBlock ≠ some gN := by rw [hx0]; exact hneW
              replace hneG : ∀ g, x0.wv.ownBlock = some g → x0.av.ownBlock ≠ some g := by rw [hx0]; exact fun g h9 h8 => hneG (by have h7 : gA = g := Option.some.inj h8; rw [h7]; exact h9)
              replace hx0 : Aside (x0.n = segX (D ++ slpS ++ dgS i) d1.n.label 7 ⟨4, 4, 4, 0⟩ (wordsN pp.is)) := by rw [hx0]; exact rfl
              clear hk9 hth9 hb9 hV9 hxs hxl hz
              refine hK.out _ _ (⟨hS, hch⟩) ?_
              clear hHeld hK
              intro hHeld
              (try simp only [Act.put, zsA, zsB, zsC])
              refine wpAnyH_done (by kernel_rfl) ?_ _
              clear hHeld
              go_wp2_with fail
              go_meet
              exact ⟨gN, x0, rfl, hBw, hgo, hwN, hx0.out, hgr, hwo, hneA, hneW, hneG⟩
            refine tkC (fun K hK => ?_) AllReadyH.nil
            have hb := alloc_below w2 (.cells ZNP 36)
            refine step_allocC (z := ZNP) rfl rfl (fun _ => rfl) ?_
            (try simp only [Act.put, zsA, zsB, zsC])
            refine hK.out _ _ (hS.then hb) ?_
            clear hHeld hK
            intro hHeld
            have hz : BlkL w2.heap.size zeroP.cs (w2.alloc (.cells ZNP 36)) := blkl_alloc w2 ZNP 36
            have hwN : wr.heap.size ≤ w2.heap.size := hBw.size
            have hneA : (Value.slice (some ⟨gA, 0, none⟩) 1 1).ownBlock ≠ some w2.heap.size := fun q => by have h9 : gA = w2.heap.size := Option.some.inj q; have h8 : gA < w2.heap.size := (hgr.lt rfl).2; omega
            have hneW : (Value.slice va (wordsN pp.is).length vc).ownBlock ≠ some w2.heap.size := fun q => by have := (hwo.lt q).2; omega
            replace hBw := Below.then hBw hb
            replace hS := hS.then hb
            replace hgr := hgr.below hb
            replace hwo := hwo.below hb
            generalize w2.alloc (.cells ZNP 36) = w3 at *
            generalize w2.heap.size = gN at *
            clear hb
            (try simp only [Act.put, zsA, zsB, zsC])
            refine tkR (rs := [5]) ?_
            refine tkC (fun K hK => ?_) AllReadyH.nil
            go_simp
            have hb := alloc_below w3 (.cells #[.int .u8 (48 + (i : Int))] 5)
            refine hK.out _ _ (hS.then hb) ?_
            clear hHeld hK
            intro hHeld
            have hch : ChrAt (w3.alloc (.cells #[.int .u8 (48 + (i : Int))] 5)) w3.heap.size (48 + i) := chr_made2 w3 i (by omega)
            replace hBw := Below.then hBw hb
            replace hS := hS.then hb
            replace hgr := hgr.below hb
            replace hwo := hwo.below hb
            replace hz := stab_blk _ _ _ _ hz hb
            generalize w3.alloc (.cells #[.int .u8 (48 + (i : Int))] 5) = w4 at *
            generalize w3.heap.size = gC at *
            clear hb
            refine wpAnyH_strong (S' := fun W => PX wr nd d1 yp i pp W ∧ ChrAt W gC (48 + i)) (fun _ h => h.1) ?_
            replace hHeld : PX wr nd d1 yp i pp w4 ∧ ChrAt w4 gC (48 + i) := ⟨hS, hch⟩
            (try simp only [Act.put, zsA, zsB, zsC])
            refine tkB 6 (y := yields_conv (by rfl) _ rfl rfl (fun _ s => s.2.conv)) (h := ?_)
            refine tkA 7 ?_
            refine tkA 18 ?_
            refine tkR (rs := [20]) ?_
            refine tkC (fun K hK => ?_) AllReadyH.nil
            obtain ⟨x0, hx0⟩ : ∃ x0 : PN, x0 = ⟨segX (D ++ slpS ++ dgS i) d1.n.label 7 ⟨4, 4, 4, 0⟩ (wordsN pp.is), some ⟨gA, 0, none⟩, 1, va, vc⟩ := ⟨_, rfl⟩
            have hxl : x0.cs.length = 16 := pn_len x0
            have hxs : (Tryz.prog.info? 36).map (·.size) = some x0.cs.length := by rw [hxl]; exact hszN
            obtain ⟨V9, hV9, hth9, hgo, hb9⟩ := put_any hz (ds := x0.cs) (by rw [hxl]; rfl) (by rw [hxl]; decide)
            refine step_store_rowC rfl _ _ rfl gN rfl x0.cs (by rw [hx0]; rfl) hth9 hxs (pn_one x0) hV9 ?_
            (try simp only [Act.put, zsA, zsB, zsC])
            have hk9 : ∀ j, j ≠ gN → V9.heap[j]? = w4.heap[j]? := fun j hj => by rw [← hV9]; exact heap_setCells_other hj _ _ _
            replace hBw := hb9 _ _ hwN hBw
            replace hS := hS00.then hBw
            replace hch : ChrAt V9 gC (48 + i) := hch.kept (hk9 _ (fun q => chr_ne hch hz q)) (hb9 0 w4 (Nat.zero_le _) (Below.refl _ _)).size
            replace hgr : OwnR 119 2 gcl V9 wr.heap.size x0.av x0.n.acl := by rw [hx0]; exact hgr.keep fun j hj => hk9 j (fun q => hneA (by rw [hj, q]))
            replace hwo : OwnR 2 1 wcl V9 wr.heap.size x0.wv x0.n.words := by rw [hx0]; exact hwo.keep fun j hj => hk9 j (fun q => hneW (by rw [hj, q]))
            replace hneA : x0.av.ownBlock ≠ some gN := by rw [hx0]; exact hneA
            replace hneW : x0.wv.ownBlock ≠ some gN := by rw [hx0]; exact hneW
            replace hneG : ∀ g, x0.wv.ownBlock = some g → x0.av.ownBlock ≠ some g := by rw [hx0]; exact fun g h9 h8 => hneG (by have h7 : gA = g := Option.some.inj h8; rw [h7]; exact h9)
            replace hx0 : Aside (x0.n = segX (D ++ slpS ++ dgS i) d1.n.label 7 ⟨4, 4, 4, 0⟩ (wordsN pp.is)) := by rw [hx0]; exact rfl
            clear hk9 hth9 hb9 hV9 hxs hxl hz
            refine hK.out _ _ (⟨hS, hch⟩) ?_
            clear hHeld hK
            intro hHeld
            (try simp only [Act.put, zsA, zsB, zsC])
            refine wpAnyH_done (by kernel_rfl) ?_ _
            clear hHeld
            go_wp2_with fail
            go_meet
            exact ⟨gN, x0, rfl, hBw, hgo, hwN, hx0.out, hgr, hwo, hneA, hneW, hneG⟩
          refine tkC (fun K hK => ?_) AllReadyH.nil
          have hb := alloc_below w1 (.cells ZNP 36)
          refine step_allocC (z := ZNP) rfl rfl (fun _ => rfl) ?_
          (try simp only [Act.put, zsA, zsB, zsC])
          refine hK.out _ _ (hS.then hb) ?_
          clear hHeld hK
          intro hHeld
          have hz : BlkL w1.heap.size zeroP.cs (w1.alloc (.cells ZNP 36)) := blkl_alloc w1 ZNP 36
          have hwN : wr.heap.size ≤ w1.heap.size := hBw.size
          have hneA : (Value.slice (some ⟨gA, 0, none⟩) 1 1).ownBlock ≠ some w1.heap.size := fun q => by have h9 : gA = w1.heap.size := Option.some.inj q; have h8 : gA < w1.heap.size := (hgr.lt rfl).2; omega
          replace hBw := Below.then hBw hb
          replace hS := hS.then hb
          replace hgr := hgr.below hb
          generalize w1.alloc (.cells ZNP 36) = w2 at *
          generalize w1.heap.size = gN at *
          clear hb
          (try simp only [Act.put, zsA, zsB, zsC])
          refine tkR (rs := [5, 17]) ?_
          refine tkC (fun K hK => ?_) ?_
          · go_simp
            have hb := alloc_below w2 (.cells #[.int .u8 (48 + (i : Int))] 5)
            refine hK.out _ _ (hS.then hb) ?_
            clear hHeld hK
            intro hHeld
            have hch : ChrAt (w2.alloc (.cells #[.int .u8 (48 + (i : Int))] 5)) w2.heap.size (48 + i) := chr_made2 w2 i (by omega)
            replace hBw := Below.then hBw hb
            replace hS := hS.then hb
            replace hgr := hgr.below hb
            replace hz := stab_blk _ _ _ _ hz hb
            generalize w2.alloc (.cells #[.int .u8 (48 + (i : Int))] 5) = w3 at *
            generalize w2.heap.size = gC at *
            clear hb
            refine wpAnyH_strong (S' := fun W => PX wr nd d1 yp i pp W ∧ ChrAt W gC (48 + i)) (fun _ h => h.1) ?_
            replace hHeld : PX wr nd d1 yp i pp w3 ∧ ChrAt w3 gC (48 + i) := ⟨hS, hch⟩
            (try simp only [Act.put, zsA, zsB, zsC])
            refine tkB 6 (y := yields_conv (by rfl) _ rfl rfl (fun _ s => s.2.conv)) (h := ?_)
            refine tkA 7 ?_
            refine tkR (rs := [17]) ?_
            refine tkC (fun K hK => ?_) AllReadyH.nil
            go_simp
            go_at_call 42
            refine (kwd w3 (hpA'.below in_okW.len (Below.then hBr hBw))).mono ?_
            rintro e w4 ⟨vw, rfl, hwo, hb⟩
            obtain ⟨va, vc, hvw, -, -, -⟩ := hwo.slice wd_okC.len
            subst hvw
            have hBw0 : wr.heap.size ≤ w3.heap.size := hBw.size
            have hneW : (Value.slice va (wordsN pp.is).length vc).ownBlock ≠ some gN := fun q => by have h9 := (hwo.lt q).1; have h8 := hz.2; omega
            have hneG : (Value.slice va (wordsN pp.is).length vc).ownBlock ≠ some gA := fun q => by have h9 := (hwo.lt q).1; have h8 : gA < w3.heap.size := (hgr.lt rfl).2; omega
            replace hBw := Below.then hBw hb
            replace hS := hS.then hb
            replace hch := hch.below hb
            replace hgr := hgr.below hb
            replace hz := stab_blk _ _ _ _ hz hb
            replace hwo : OwnR 2 1 wcl w4 wr.heap.size (Value.slice va (wordsN pp.is).length vc) (wordsN pp.is) := hwo.lower hBw0
            clear hb hBw0
            refine hK.out _ _ (⟨hS, hch⟩) ?_
            clear hHeld hK
            intro hHeld
            (try simp only [Act.put, zsA, zsB, zsC])
            refine tkA 18 ?_
            refine tkR (rs := [20]) ?_
            refine tkC (fun K hK => ?_) AllReadyH.nil
            obtain ⟨x0, hx0⟩ : ∃ x0 : PN, x0 = ⟨segX (D ++ slpS ++ dgS i) d1.n.label 7 ⟨4, 4, 4, 0⟩ (wordsN pp.is), some ⟨gA, 0, none⟩, 1, va, vc⟩ := ⟨_, rfl⟩
            have hxl : x0.cs.length = 16 := pn_len x0
            have hxs : (Tryz.prog.info? 36).map (·.size) = some x0.cs.length := by rw [hxl]; exact hszN
            obtain ⟨V9, hV9, hth9, hgo, hb9⟩ := put_any hz (ds := x0.cs) (by rw [hxl]; rfl) (by rw [hxl]; decide)
            refine step_store_rowC rfl _ _ rfl gN rfl x0.cs (by rw [hx0]; rfl) hth9 hxs (pn_one x0) hV9 ?_
            (try simp only [Act.put, zsA, zsB, zsC])
            have hk9 : ∀ j, j ≠ gN → V9.heap[j]? = w4.heap[j]? := fun j hj => by rw [← hV9]; exact heap_setCells_other hj _ _ _
            replace hBw := hb9 _ _ hwN hBw
            replace hS := hS00.then hBw
            replace hch : ChrAt V9 gC (48 + i) := hch.kept (hk9 _ (fun q => chr_ne hch hz q)) (hb9 0 w4 (Nat.zero_le _) (Below.refl _ _)).size
            replace hgr : OwnR 119 2 gcl V9 wr.heap.size x0.av x0.n.acl := by rw [hx0]; exact hgr.keep fun j hj => hk9 j (fun q => hneA (by rw [hj, q]))
            replace hwo : OwnR 2 1 wcl V9 wr.heap.size x0.wv x0.n.words := by rw [hx0]; exact hwo.keep fun j hj => hk9 j (fun q => hneW (by rw [hj, q]))
            replace hneA : x0.av.ownBlock ≠ some gN := by rw [hx0]; exact hneA
            replace hneW : x0.wv.ownBlock ≠ some gN := by rw [hx0]; exact hneW
            replace hneG : ∀ g, x0.wv.ownBlock = some g → x0.av.ownBlock ≠ some g := by rw [hx0]; exact fun g h9 h8 => hneG (by have h7 : gA = g := Option.some.inj h8; rw [h7]; exact h9)
            replace hx0 : Aside (x0.n = segX (D ++ slpS ++ dgS i) d1.n.label 7 ⟨4, 4, 4, 0⟩ (wordsN pp.is)) := by rw [hx0]; exact rfl
            clear hk9 hth9 hb9 hV9 hxs hxl hz
            refine hK.out _ _ (⟨hS, hch⟩) ?_
            clear hHeld hK
            intro hHeld
            (try simp only [Act.put, zsA, zsB, zsC])
            refine wpAnyH_done (by kernel_rfl) ?_ _
            clear hHeld
            go_wp2_with fail
            go_meet
            exact ⟨gN, x0, rfl, hBw, hgo, hwN, hx0.out, hgr, hwo, hneA, hneW, hneG⟩
          refine tkC (fun K hK => ?_) AllReadyH.nil
          go_simp
          go_at_call 42
          refine (kwd w2 (hpA'.below in_okW.len (Below.then hBr hBw))).mono ?_
          rintro e w3 ⟨vw, rfl, hwo, hb⟩
          obtain ⟨va, vc, hvw, -, -, -⟩ := hwo.slice wd_okC.len
          subst hvw
          have hBw0 : wr.heap.size ≤ w2.heap.size := hBw.size
          have hneW : (Value.slice va (wordsN pp.is).length vc).ownBlock ≠ some gN := fun q => by have h9 := (hwo.lt q).1; have h8 := hz.2; omega
          have hneG : (Value.slice va (wordsN pp.is).length vc).ownBlock ≠ some gA := fun q => by have h9 := (hwo.lt q).1; have h8 : gA < w2.heap.size := (hgr.lt rfl).2; omega
          replace hBw := Below.then hBw hb
          replace hS := hS.then hb
          replace hgr := hgr.below hb
          replace hz := stab_blk _ _ _ _ hz hb
          replace hwo : OwnR 2 1 wcl w3 wr.heap.size (Value.slice va (wordsN pp.is).length vc) (wordsN pp.is) := hwo.lower hBw0
          clear hb hBw0
          refine hK.out _ _ (hS) ?_
          clear hHeld hK
          intro hHeld
          (try simp only [Act.put, zsA, zsB, zsC])
          refine tkR (rs := [5]) ?_
          refine tkC (fun K hK => ?_) AllReadyH.nil
          go_simp
          have hb := alloc_below w3 (.cells #[.int .u8 (48 + (i : Int))] 5)
          refine hK.out _ _ (hS.then hb) ?_
          clear hHeld hK
          intro hHeld
          have hch : ChrAt (w3.alloc (.cells #[.int .u8 (48 + (i : Int))] 5)) w3.heap.size (48 + i) := chr_made2 w3 i (by omega)
          replace hBw := Below.then hBw hb
          replace hS := hS.then hb
          replace hgr := hgr.below hb
          replace hwo := hwo.below hb
          replace hz := stab_blk _ _ _ _ hz hb
          generalize w3.alloc (.cells #[.int .u8 (48 + (i : Int))] 5) = w4 at *
          generalize w3.heap.size = gC at *
          clear hb
          refine wpAnyH_strong (S' := fun W => PX wr nd d1 yp i pp W ∧ ChrAt W gC (48 + i)) (fun _ h => h.1) ?_
          replace hHeld : PX wr nd d1 yp i pp w4 ∧ ChrAt w4 gC (48 + i) := ⟨hS, hch⟩
          (try simp only [Act.put, zsA, zsB, zsC])
          refine tkB 6 (y := yields_conv (by rfl) _ rfl rfl (fun _ s => s.2.conv)) (h := ?_)
          refine tkA 7 ?_
          refine tkA 18 ?_
          refine tkR (rs := [20]) ?_
          refine tkC (fun K hK => ?_) AllReadyH.nil
          obtain ⟨x0, hx0⟩ : ∃ x0 : PN, x0 = ⟨segX (D ++ slpS ++ dgS i) d1.n.label 7 ⟨4, 4, 4, 0⟩ (wordsN pp.is), some ⟨gA, 0, none⟩, 1, va, vc⟩ := ⟨_, rfl⟩
          have hxl : x0.cs.length = 16 := pn_len x0
          have hxs : (Tryz.prog.info? 36).map (·.size) = some x0.cs.length := by rw [hxl]; exact hszN
          obtain ⟨V9, hV9, hth9, hgo, hb9⟩ := put_any hz (ds := x0.cs) (by rw [hxl]; rfl) (by rw [hxl]; decide)
          refine step_store_rowC rfl _ _ rfl gN rfl x0.cs (by rw [hx0]; rfl) hth9 hxs (pn_one x0) hV9 ?_
          (try simp only [Act.put, zsA, zsB, zsC])
          have hk9 : ∀ j, j ≠ gN → V9.heap[j]? = w4.heap[j]? := fun j hj => by rw [← hV9]; exact heap_setCells_other hj _ _ _
          replace hBw := hb9 _ _ hwN hBw
          replace hS := hS00.then hBw
          replace hch : ChrAt V9 gC (48 + i) := hch.kept (hk9 _ (fun q => chr_ne hch hz q)) (hb9 0 w4 (Nat.zero_le _) (Below.refl _ _)).size
          replace hgr : OwnR 119 2 gcl V9 wr.heap.size x0.av x0.n.acl := by rw [hx0]; exact hgr.keep fun j hj => hk9 j (fun q => hneA (by rw [hj, q]))
          replace hwo : OwnR 2 1 wcl V9 wr.heap.size x0.wv x0.n.words := by rw [hx0]; exact hwo.keep fun j hj => hk9 j (fun q => hneW (by rw [hj, q]))
          replace hneA : x0.av.ownBlock ≠ some gN := by rw [hx0]; exact hneA
          replace hneW : x0.wv.ownBlock ≠ some gN := by rw [hx0]; exact hneW
          replace hneG : ∀ g, x0.wv.ownBlock = some g → x0.av.ownBlock ≠ some g := by rw [hx0]; exact fun g h9 h8 => hneG (by have h7 : gA = g := Option.some.inj h8; rw [h7]; exact h9)
          replace hx0 : Aside (x0.n = segX (D ++ slpS ++ dgS i) d1.n.label 7 ⟨4, 4, 4, 0⟩ (wordsN pp.is)) := by rw [hx0]; exact rfl
          clear hk9 hth9 hb9 hV9 hxs hxl hz
          refine hK.out _ _ (⟨hS, hch⟩) ?_
          clear hHeld hK
          intro hHeld
          (try simp only [Act.put, zsA, zsB, zsC])
          refine wpAnyH_done (by kernel_rfl) ?_ _
          clear hHeld
          go_wp2_with fail
          go_meet
          exact ⟨gN, x0, rfl, hBw, hgo, hwN, hx0.out, hgr, hwo, hneA, hneW, hneG⟩
        refine tkC (fun K hK => ?_) ?_
        · go_simp
          go_at_call 42
          refine (kwd w0 (hpA'.below in_okW.len (Below.then hBr hBw))).mono ?_
          rintro e w1 ⟨vw, rfl, hwo, hb⟩
          obtain ⟨va, vc, hvw, -, -, -⟩ := hwo.slice wd_okC.len
          subst hvw
          have hBw0 : wr.heap.size ≤ w0.heap.size := hBw.size
          replace hBw := Below.then hBw hb
          replace hS := hS.then hb
          replace hwo : OwnR 2 1 wcl w1 wr.heap.size (Value.slice va (wordsN pp.is).length vc) (wordsN pp.is) := hwo.lower hBw0
          clear hb hBw0
          refine hK.out _ _ (hS) ?_
          clear hHeld hK
          intro hHeld
          (try simp only [Act.put, zsA, zsB, zsC])
          refine tkR (rs := [5, 11, 19]) ?_
          refine tkC (fun K hK => ?_) ?_
          · go_simp
            have hb := alloc_below w1 (.cells #[.int .u8 (48 + (i : Int))] 5)
            refine hK.out _ _ (hS.then hb) ?_
            clear hHeld hK
            intro hHeld
            have hch : ChrAt (w1.alloc (.cells #[.int .u8 (48 + (i : Int))] 5)) w1.heap.size (48 + i) := chr_made2 w1 i (by omega)
            replace hBw := Below.then hBw hb
            replace hS := hS.then hb
            replace hwo := hwo.below hb
            generalize w1.alloc (.cells #[.int .u8 (48 + (i : Int))] 5) = w2 at *
            generalize w1.heap.size = gC at *
            clear hb
            refine wpAnyH_strong (S' := fun W => PX wr nd d1 yp i pp W ∧ ChrAt W gC (48 + i)) (fun _ h => h.1) ?_
            replace hHeld : PX wr nd d1 yp i pp w2 ∧ ChrAt w2 gC (48 + i) := ⟨hS, hch⟩
            (try simp only [Act.put, zsA, zsB, zsC])
            refine tkB 6 (y := yields_conv (by rfl) _ rfl rfl (fun _ s => s.2.conv)) (h := ?_)
            refine tkA 7 ?_
            refine tkR (rs := [11, 19]) ?_
            refine tkC (fun K hK => ?_) ?_
            · skip
              have hb := alloc_below w2 (.cells (gcl ⟨starS, 7⟩).toArray 119)
              refine step_build1 gr_okT (by decide) rfl _ rfl (gcl ⟨starS, 7⟩) rfl rfl ?_
              (try simp only [Act.put, zsA, zsB, zsC])
              refine hK.out _ _ (⟨hS.then hb, hch.below hb⟩) ?_
              clear hHeld hK
              intro hHeld
              have hgr : OwnR 119 2 gcl (w2.alloc (.cells (gcl ⟨starS, 7⟩).toArray 119)) wr.heap.size (.slice (some ⟨w2.heap.size, 0, none⟩) 1 1) [⟨starS, 7⟩] := own_oneP gr_okT w2 hBw.size ⟨starS, 7⟩
              have hneG : (Value.slice va (wordsN pp.is).length vc).ownBlock ≠ some w2.heap.size := fun q => by have := (hwo.lt q).2; omega
              replace hBw := Below.then hBw hb
              replace hS := hS.then hb
              replace hch := hch.below hb
              replace hwo := hwo.below hb
              generalize w2.alloc (.cells (gcl ⟨starS, 7⟩).toArray 119) = w3 at *
              generalize w2.heap.size = gA at *
              clear hb
              (try simp only [Act.put, zsA, zsB, zsC])
              refine tkA 18 ?_
              refine tkR (rs := [19]) ?_
              refine tkC (fun K hK => ?_) AllReadyH.nil
              have hb := alloc_below w3 (.cells ZNP 36)
              refine step_allocC (z := ZNP) rfl rfl (fun _ => rfl) ?_
              (try simp only [Act.put, zsA, zsB, zsC])
              refine hK.out _ _ (⟨hS.then hb, hch.below hb⟩) ?_
              clear hHeld hK
              intro hHeld
              have hz : BlkL w3.heap.size zeroP.cs (w3.alloc (.cells ZNP 36)) := blkl_alloc w3 ZNP 36
              have hwN : wr.heap.size ≤ w3.heap.size := hBw.size
              have hneA : (Value.slice (some ⟨gA, 0, none⟩) 1 1).ownBlock ≠ some w3.heap.size := fun q => by have h9 : gA = w3.heap.size := Option.some.inj q; have h8 : gA < w3.heap.size := (hgr.lt rfl).2; omega
              have hneW : (Value.slice va (wordsN pp.is).length vc).ownBlock ≠ some w3.heap.size := fun q => by have := (hwo.lt q).2; omega
              replace hBw := Below.then hBw hb
              replace hS := hS.then hb
              replace hch := hch.below hb
              replace hgr := hgr.below hb
              replace hwo := hwo.below hb
              generalize w3.alloc (.cells ZNP 36) = w4 at *
              generalize w3.heap.size = gN at *
              clear hb
              (try simp only [Act.put, zsA, zsB, zsC])
              refine tkR (rs := [20]) ?_
              refine tkC (fun K hK => ?_) AllReadyH.nil
              obtain ⟨x0, hx0⟩ : ∃ x0 : PN, x0 = ⟨segX (D ++ slpS ++ dgS i) d1.n.label 7 ⟨4, 4, 4, 0⟩ (wordsN pp.is), some ⟨gA, 0, none⟩, 1, va, vc⟩ := ⟨_, rfl⟩
              have hxl : x0.cs.length = 16 := pn_len x0
              have hxs : (Tryz.prog.info? 36).map (·.size) = some x0.cs.length := by rw [hxl]; exact hszN
              obtain ⟨V9, hV9, hth9, hgo, hb9⟩ := put_any hz (ds := x0.cs) (by rw [hxl]; rfl) (by rw [hxl]; decide)
              refine step_store_rowC rfl _ _ rfl gN rfl x0.cs (by rw [hx0]; rfl) hth9 hxs (pn_one x0) hV9 ?_
              (try simp only [Act.put, zsA, zsB, zsC])
              have hk9 : ∀ j, j ≠ gN → V9.heap[j]? = w4.heap[j]? := fun j hj => by rw [← hV9]; exact heap_setCells_other hj _ _ _
              replace hBw := hb9 _ _ hwN hBw
              replace hS := hS00.then hBw
              replace hch : ChrAt V9 gC (48 + i) := hch.kept (hk9 _ (fun q => chr_ne hch hz q)) (hb9 0 w4 (Nat.zero_le _) (Below.refl _ _)).size
              replace hgr : OwnR 119 2 gcl V9 wr.heap.size x0.av x0.n.acl := by rw [hx0]; exact hgr.keep fun j hj => hk9 j (fun q => hneA (by rw [hj, q]))
              replace hwo : OwnR 2 1 wcl V9 wr.heap.size x0.wv x0.n.words := by rw [hx0]; exact hwo.keep fun j hj => hk9 j (fun q => hneW (by rw [hj, q]))
              replace hneA : x0.av.ownBlock ≠ some gN := by rw [hx0]; exact hneA
              replace hneW : x0.wv.ownBlock ≠ some gN := by rw [hx0]; exact hneW
              replace hneG : ∀ g, x0.wv.ownBlock = some g → x0.av.ownBlock ≠ some g := by rw [hx0]; exact fun g h9 h8 => hneG (by have h7 : gA = g := Option.some.inj h8; rw [h7]; exact h9)
              replace hx0 : Aside (x0.n = segX (D ++ slpS ++ dgS i) d1.n.label 7 ⟨4, 4, 4, 0⟩ (wordsN pp.is)) := by rw [hx0]; exact rfl
              clear hk9 hth9 hb9 hV9 hxs hxl hz
              refine hK.out _ _ (⟨hS, hch⟩) ?_
              clear hHeld hK
              intro hHeld
              (try simp only [Act.put, zsA, zsB, zsC])
              refine wpAnyH_done (by kernel_rfl) ?_ _
              clear hHeld
              go_wp2_with fail
              go_meet
              exact ⟨gN, x0, rfl, hBw, hgo, hwN, hx0.out, hgr, hwo, hneA, hneW, hneG⟩
            refine tkC (fun K hK => ?_) AllReadyH.nil
            have hb := alloc_below w2 (.cells ZNP 36)
            refine step_allocC (z := ZNP) rfl rfl (fun _ => rfl) ?_
            (try simp only [Act.put, zsA, zsB, zsC])
            refine hK.out _ _ (⟨hS.then hb, hch.below hb⟩) ?_
            clear hHeld hK
            intro hHeld
            have hz : BlkL w2.heap.size zeroP.cs (w2.alloc (.cells ZNP 36)) := blkl_alloc w2 ZNP 36
            have hwN : wr.heap.size ≤ w2.heap.size := hBw.size
            have hneW : (Value.slice va (wordsN pp.is).length vc).ownBlock ≠ some w2.heap.size := fun q => by have := (hwo.lt q).2; omega
            replace hBw := Below.then hBw hb
            replace hS := hS.then hb
            replace hch := hch.below hb
            replace hwo := hwo.below hb
            generalize w2.alloc (.cells ZNP 36) = w3 at *
            generalize w2.heap.size = gN at *
            clear hb
            (try simp only [Act.put, zsA, zsB, zsC])
            refine tkR (rs := [11]) ?_
            refine tkC (fun K hK => ?_) AllReadyH.nil
            have hb := alloc_below w3 (.cells (gcl ⟨starS, 7⟩).toArray 119)
            refine step_build1 gr_okT (by decide) rfl _ rfl (gcl ⟨starS, 7⟩) rfl rfl ?_
            (try simp only [Act.put, zsA, zsB, zsC])
            refine hK.out _ _ (⟨hS.then hb, hch.below hb⟩) ?_
            clear hHeld hK
            intro hHeld
            have hgr : OwnR 119 2 gcl (w3.alloc (.cells (gcl ⟨starS, 7⟩).toArray 119)) wr.heap.size (.slice (some ⟨w3.heap.size, 0, none⟩) 1 1) [⟨starS, 7⟩] := own_oneP gr_okT w3 hBw.size ⟨starS, 7⟩
            have hneA : (Value.slice (some ⟨w3.heap.size, 0, none⟩) 1 1).ownBlock ≠ some gN := fun q => by have h9 : w3.heap.size = gN := Option.some.inj q; have h8 := hz.2; omega
            have hneG : (Value.slice va (wordsN pp.is).length vc).ownBlock ≠ some w3.heap.size := fun q => by have := (hwo.lt q).2; omega
            replace hBw := Below.then hBw hb
            replace hS := hS.then hb
            replace hch := hch.below hb
            replace hwo := hwo.below hb
            replace hz := stab_blk _ _ _ _ hz hb
            generalize w3.alloc (.cells (gcl ⟨starS, 7⟩).toArray 119) = w4 at *
            generalize w3.heap.size = gA at *
            clear hb
            (try simp only [Act.put, zsA, zsB, zsC])
            refine tkA 18 ?_
            refine tkR (rs := [20]) ?_
            refine tkC (fun K hK => ?_) AllReadyH.nil
            obtain ⟨x0, hx0⟩ : ∃ x0 : PN, x0 = ⟨segX (D ++ slpS ++ dgS i) d1.n.label 7 ⟨4, 4, 4, 0⟩ (wordsN pp.is), some ⟨gA, 0, none⟩, 1, va, vc⟩ := ⟨_, rfl⟩
            have hxl : x0.cs.length = 16 := pn_len x0
            have hxs : (Tryz.prog.info? 36).map (·.size) = some x0.cs.length := by rw [hxl]; exact hszN
            obtain ⟨V9, hV9, hth9, hgo, hb9⟩ := put_any hz (ds := x0.cs) (by rw [hxl]; rfl) (by rw [hxl]; decide)
            refine step_store_rowC rfl _ _ rfl gN rfl x0.cs (by rw [hx0]; rfl) hth9 hxs (pn_one x0) hV9 ?_
            (try simp only [Act.put, zsA, zsB, zsC])
            have hk9 : ∀ j, j ≠ gN → V9.heap[j]? = w4.heap[j]? := fun j hj => by rw [← hV9]; exact heap_setCells_other hj _ _ _
            replace hBw := hb9 _ _ hwN hBw
            replace hS := hS00.then hBw
            replace hch : ChrAt V9 gC (48 + i) := hch.kept (hk9 _ (fun q => chr_ne hch hz q)) (hb9 0 w4 (Nat.zero_le _) (Below.refl _ _)).size
            replace hgr : OwnR 119 2 gcl V9 wr.heap.size x0.av x0.n.acl := by rw [hx0]; exact hgr.keep fun j hj => hk9 j (fun q => hneA (by rw [hj, q]))
            replace hwo : OwnR 2 1 wcl V9 wr.heap.size x0.wv x0.n.words := by rw [hx0]; exact hwo.keep fun j hj => hk9 j (fun q => hneW (by rw [hj, q]))
            replace hneA : x0.av.ownBlock ≠ some gN := by rw [hx0]; exact hneA
            replace hneW : x0.wv.ownBlock ≠ some gN := by rw [hx0]; exact hneW
            replace hneG : ∀ g, x0.wv.ownBlock = some g → x0.av.ownBlock ≠ some g := by rw [hx0]; exact fun g h9 h8 => hneG (by have h7 : gA = g := Option.some.inj h8; rw [h7]; exact h9)
            replace hx0 : Aside (x0.n = segX (D ++ slpS ++ dgS i) d1.n.label 7 ⟨4, 4, 4, 0⟩ (wordsN pp.is)) := by rw [hx0]; exact rfl
            clear hk9 hth9 hb9 hV9 hxs hxl hz
            refine hK.out _ _ (⟨hS, hch⟩) ?_
            clear hHeld hK
            intro hHeld
            (try simp only [Act.put, zsA, zsB, zsC])
            refine wpAnyH_done (by kernel_rfl) ?_ _
            clear hHeld
            go_wp2_with fail
            go_meet
            exact ⟨gN, x0, rfl, hBw, hgo, hwN, hx0.out, hgr, hwo, hneA, hneW, hneG⟩
          refine tkC (fun K hK => ?_) ?_
          · skip
            have hb := alloc_below w1 (.cells (gcl ⟨starS, 7⟩).toArray 119)
            refine step_build1 gr_okT (by decide) rfl _ rfl (gcl ⟨starS, 7⟩) rfl rfl ?_
            (try simp only [Act.put, zsA, zsB, zsC])
            refine hK.out _ _ (hS.then hb) ?_
            clear hHeld hK
            intro hHeld
            have hgr : OwnR 119 2 gcl (w1.alloc (.cells (gcl ⟨starS, 7⟩).toArray 119)) wr.heap.size (.slice (some ⟨w1.heap.size, 0, none⟩) 1 1) [⟨starS, 7⟩] := own_oneP gr_okT w1 hBw.size ⟨starS, 7⟩
            have hneG : (Value.slice va (wordsN pp.is).length vc).ownBlock ≠ some w1.heap.size := fun q => by have := (hwo.lt q).2; omega
            replace hBw := Below.then hBw hb
            replace hS := hS.then hb
            replace hwo := hwo.below hb
            generalize w1.alloc (.cells (gcl ⟨starS, 7⟩).toArray 119) = w2 at *
            generalize w1.heap.size = gA at *
            clear hb
            (try simp only [Act.put, zsA, zsB, zsC])
            refine tkR (rs := [5, 19]) ?_
            refine tkC (fun K hK => ?_) ?_
            · go_simp
              have hb := alloc_below w2 (.cells #[.int .u8 (48 + (i : Int))] 5)
              refine hK.out _ _ (hS.then hb) ?_
              clear hHeld hK
              intro hHeld
              have hch : ChrAt (w2.alloc (.cells #[.int .u8 (48 + (i : Int))] 5)) w2.heap.size (48 + i) := chr_made2 w2 i (by omega)
              replace hBw := Below.then hBw hb
              replace hS := hS.then hb
              replace hgr := hgr.below hb
              replace hwo := hwo.below hb
              generalize w2.alloc (.cells #[.int .u8 (48 + (i : Int))] 5) = w3 at *
              generalize w2.heap.size = gC at *
              clear hb
              refine wpAnyH_strong (S' := fun W => PX wr nd d1 yp i pp W ∧ ChrAt W gC (48 + i)) (fun _ h => h.1) ?_
              replace hHeld : PX wr nd d1 yp i pp w3 ∧ ChrAt w3 gC (48 + i) := ⟨hS, hch⟩
              (try simp only [Act.put, zsA, zsB, zsC])
              refine tkB 6 (y := yields_conv (by rfl) _ rfl rfl (fun _ s => s.2.conv)) (h := ?_)
              refine tkA 7 ?_
              refine tkA 18 ?_
              refine tkR (rs := [19]) ?_
              refine tkC (fun K hK => ?_) AllReadyH.nil
              have hb := alloc_below w3 (.cells ZNP 36)
              refine step_allocC (z := ZNP) rfl rfl (fun _ => rfl) ?_
              (try simp only [Act.put, zsA, zsB, zsC])
              refine hK.out _ _ (⟨hS.then hb, hch.below hb⟩) ?_
              clear hHeld hK
              intro hHeld
              have hz : BlkL w3.heap.size zeroP.cs (w3.alloc (.cells ZNP 36)) := blkl_alloc w3 ZNP 36
              have hwN : wr.heap.size ≤ w3.heap.size := hBw.size
              have hneA : (Value.slice (some ⟨gA, 0, none⟩) 1 1).ownBlock ≠ some w3.heap.size := fun q => by have h9 : gA = w3.heap.size := Option.some.inj q; have h8 : gA < w3.heap.size := (hgr.lt rfl).2; omega
              have hneW : (Value.slice va (wordsN pp.is).length vc).ownBlock ≠ some w3.heap.size := fun q => by have := (hwo.lt q).2; omega
              replace hBw := Below.then hBw hb
              replace hS := hS.then hb
              replace hch := hch.below hb
              replace hgr := hgr.below hb
              replace hwo := hwo.below hb
              generalize w3.alloc (.cells ZNP 36) = w4 at *
              generalize w3.heap.size = gN at *
              clear hb
              (try simp only [Act.put, zsA, zsB, zsC])
              refine tkR (rs := [20]) ?_
              refine tkC (fun K hK => ?_) AllReadyH.nil
              obtain ⟨x0, hx0⟩ : ∃ x0 : PN, x0 = ⟨segX (D ++ slpS ++ dgS i) d1.n.label 7 ⟨4, 4, 4, 0⟩ (wordsN pp.is), some ⟨gA, 0, none⟩, 1, va, vc⟩ := ⟨_, rfl⟩
              have hxl : x0.cs.length = 16 := pn_len x0
              have hxs : (Tryz.prog.info? 36).map (·.size) = some x0.cs.length := by rw [hxl]; exact hszN
              obtain ⟨V9, hV9, hth9, hgo, hb9⟩ := put_any hz (ds := x0.cs) (by rw [hxl]; rfl) (by rw [hxl]; decide)
              refine step_store_rowC rfl _ _ rfl gN rfl x0.cs (by rw [hx0]; rfl) hth9 hxs (pn_one x0) hV9 ?_
              (try simp only [Act.put, zsA, zsB, zsC])
              have hk9 : ∀ j, j ≠ gN → V9.heap[j]? = w4.heap[j]? := fun j hj => by rw [← hV9]; exact heap_setCells_other hj _ _ _
              replace hBw := hb9 _ _ hwN hBw
              replace hS := hS00.then hBw
              replace hch : ChrAt V9 gC (48 + i) := hch.kept (hk9 _ (fun q => chr_ne hch hz q)) (hb9 0 w4 (Nat.zero_le _) (Below.refl _ _)).size
              replace hgr : OwnR 119 2 gcl V9 wr.heap.size x0.av x0.n.acl := by rw [hx0]; exact hgr.keep fun j hj => hk9 j (fun q => hneA (by rw [hj, q]))
              replace hwo : OwnR 2 1 wcl V9 wr.heap.size x0.wv x0.n.words := by rw [hx0]; exact hwo.keep fun j hj => hk9 j (fun q => hneW (by rw [hj, q]))
              replace hneA : x0.av.ownBlock ≠ some gN := by rw [hx0]; exact hneA
              replace hneW : x0.wv.ownBlock ≠ some gN := by rw [hx0]; exact hneW
              replace hneG : ∀ g, x0.wv.ownBlock = some g → x0.av.ownBlock ≠ some g := by rw [hx0]; exact fun g h9 h8 => hneG (by have h7 : gA = g := Option.some.inj h8; rw [h7]; exact h9)
              replace hx0 : Aside (x0.n = segX (D ++ slpS ++ dgS i) d1.n.label 7 ⟨4, 4, 4, 0⟩ (wordsN pp.is)) := by rw [hx0]; exact rfl
              clear hk9 hth9 hb9 hV9 hxs hxl hz
              refine hK.out _ _ (⟨hS, hch⟩) ?_
              clear hHeld hK
              intro hHeld
              (try simp only [Act.put, zsA, zsB, zsC])
              refine wpAnyH_done (by kernel_rfl) ?_ _
              clear hHeld
              go_wp2_with fail
              go_meet
              exact ⟨gN, x0, rfl, hBw, hgo, hwN, hx0.out, hgr, hwo, hneA, hneW, hneG⟩
            refine tkC (fun K hK => ?_) AllReadyH.nil
            have hb := alloc_below w2 (.cells ZNP 36)
            refine step_allocC (z := ZNP) rfl rfl (fun _ => rfl) ?_
            (try simp only [Act.put, zsA, zsB, zsC])
            refine hK.out _ _ (hS.then hb) ?_
            clear hHeld hK
            intro hHeld
            have hz : BlkL w2.heap.size zeroP.cs (w2.alloc (.cells ZNP 36)) := blkl_alloc w2 ZNP 36
            have hwN : wr.heap.size ≤ w2.heap.size := hBw.size
            have hneA : (Value.slice (some ⟨gA, 0, none⟩) 1 1).ownBlock ≠ some w2.heap.size := fun q => by have h9 : gA = w2.heap.size := Option.some.inj q; have h8 : gA < w2.heap.size := (hgr.lt rfl).2; omega
            have hneW : (Value.slice va (wordsN pp.is).length vc).ownBlock ≠ some w2.heap.size := fun q => by have := (hwo.lt q).2; omega
            replace hBw := Below.then hBw hb
            replace hS := hS.then hb
            replace hgr := hgr.below hb
            replace hwo := hwo.below hb
            generalize w2.alloc (.cells ZNP 36) = w3 at *
            generalize w2.heap.size = gN at *
            clear hb
            (try simp only [Act.put, zsA, zsB, zsC])
            refine tkR (rs := [5]) ?_
            refine tkC (fun K hK => ?_) AllReadyH.nil
            go_simp
            have hb := alloc_below w3 (.cells #[.int .u8 (48 + (i : Int))] 5)
            refine hK.out _ _ (hS.then hb) ?_
            clear hHeld hK
            intro hHeld
            have hch : ChrAt (w3.alloc (.cells #[.int .u8 (48 + (i : Int))] 5)) w3.heap.size (48 + i) := chr_made2 w3 i (by omega)
            replace hBw := Below.then hBw hb
            replace hS := hS.then hb
            replace hgr := hgr.below hb
            replace hwo := hwo.below hb
            replace hz := stab_blk _ _ _ _ hz hb
            generalize w3.alloc (.cells #[.int .u8 (48 + (i : Int))] 5) = w4 at *
            generalize w3.heap.size = gC at *
            clear hb
            refine wpAnyH_strong (S' := fun W => PX wr nd d1 yp i pp W ∧ ChrAt W gC (48 + i)) (fun _ h => h.1) ?_
            replace hHeld : PX wr nd d1 yp i pp w4 ∧ ChrAt w4 gC (48 + i) := ⟨hS, hch⟩
            (try simp only [Act.put, zsA, zsB, zsC])
            refine tkB 6 (y := yields_conv (by rfl) _ rfl rfl (fun _ s => s.2.conv)) (h := ?_)
            refine tkA 7 ?_
            refine tkA 18 ?_
            refine tkR (rs := [20]) ?_
            refine tkC (fun K hK => ?_) AllReadyH.nil
            obtain ⟨x0, hx0⟩ : ∃ x0 : PN, x0 = ⟨segX (D ++ slpS ++ dgS i) d1.n.label 7 ⟨4, 4, 4, 0⟩ (wordsN pp.is), some ⟨gA, 0, none⟩, 1, va, vc⟩ := ⟨_, rfl⟩
            have hxl : x0.cs.length = 16 := pn_len x0
            have hxs : (Tryz.prog.info? 36).map (·.size) = some x0.cs.length := by rw [hxl]; exact hszN
            obtain ⟨V9, hV9, hth9, hgo, hb9⟩ := put_any hz (ds := x0.cs) (by rw [hxl]; rfl) (by rw [hxl]; decide)
            refine step_store_rowC rfl _ _ rfl gN rfl x0.cs (by rw [hx0]; rfl) hth9 hxs (pn_one x0) hV9 ?_
            (try simp only [Act.put, zsA, zsB, zsC])
            have hk9 : ∀ j, j ≠ gN → V9.heap[j]? = w4.heap[j]? := fun j hj => by rw [← hV9]; exact heap_setCells_other hj _ _ _
            replace hBw := hb9 _ _ hwN hBw
            replace hS := hS00.then hBw
            replace hch : ChrAt V9 gC (48 + i) := hch.kept (hk9 _ (fun q => chr_ne hch hz q)) (hb9 0 w4 (Nat.zero_le _) (Below.refl _ _)).size
            replace hgr : OwnR 119 2 gcl V9 wr.heap.size x0.av x0.n.acl := by rw [hx0]; exact hgr.keep fun j hj => hk9 j (fun q => hneA (by rw [hj, q]))
            replace hwo : OwnR 2 1 wcl V9 wr.heap.size x0.wv x0.n.words := by rw [hx0]; exact hwo.keep fun j hj => hk9 j (fun q => hneW (by rw [hj, q]))
            replace hneA : x0.av.ownBlock ≠ some gN := by rw [hx0]; exact hneA
            replace hneW : x0.wv.ownBlock ≠ some gN := by rw [hx0]; exact hneW
            replace hneG : ∀ g, x0.wv.ownBlock = some g → x0.av.ownBlock ≠ some g := by rw [hx0]; exact fun g h9 h8 => hneG (by have h7 : gA = g := Option.some.inj h8; rw [h7]; exact h9)
            replace hx0 : Aside (x0.n = segX (D ++ slpS ++ dgS i) d1.n.label 7 ⟨4, 4, 4, 0⟩ (wordsN pp.is)) := by rw [hx0]; exact rfl
            clear hk9 hth9 hb9 hV9 hxs hxl hz
            refine hK.out _ _ (⟨hS, hch⟩) ?_
            clear hHeld hK
            intro hHeld
            (try simp only [Act.put, zsA, zsB, zsC])
            refine wpAnyH_done (by kernel_rfl) ?_ _
            clear hHeld
            go_wp2_with fail
            go_meet
            exact ⟨gN, x0, rfl, hBw, hgo, hwN, hx0.out, hgr, hwo, hneA, hneW, hneG⟩
          refine tkC (fun K hK => ?_) AllReadyH.nil
          have hb := alloc_below w1 (.cells ZNP 36)
          refine step_allocC (z := ZNP) rfl rfl (fun _ => rfl) ?_
          (try simp only [Act.put, zsA, zsB, zsC])
          refine hK.out _ _ (hS.then hb) ?_
          clear hHeld hK
          intro hHeld
          have hz : BlkL w1.heap.size zeroP.cs (w1.alloc (.cells ZNP 36)) := blkl_alloc w1 ZNP 36
          have hwN : wr.heap.size ≤ w1.heap.size := hBw.size
          have hneW : (Value.slice va (wordsN pp.is).length vc).ownBlock ≠ some w1.heap.size := fun q => by have := (hwo.lt q).2; omega
          replace hBw := Below.then hBw hb
          replace hS := hS.then hb
          replace hwo := hwo.below hb
          generalize w1.alloc (.cells ZNP 36) = w2 at *
          generalize w1.heap.size = gN at *
          clear hb
          (try simp only [Act.put, zsA, zsB, zsC])
          refine tkR (rs := [5, 11]) ?_
          refine tkC (fun K hK => ?_) ?_
          · go_simp
            have hb := alloc_below w2 (.cells #[.int .u8 (48 + (i : Int))] 5)
            refine hK.out _ _ (hS.then hb) ?_
            clear hHeld hK
            intro hHeld
            have hch : ChrAt (w2.alloc (.cells #[.int .u8 (48 + (i : Int))] 5)) w2.heap.size (48 + i) := chr_made2 w2 i (by omega)
            replace hBw := Below.then hBw hb
            replace hS := hS.then hb
            replace hwo := hwo.below hb
            replace hz := stab_blk _ _ _ _ hz hb
            generalize w2.alloc (.cells #[.int .u8 (48 + (i : Int))] 5) = w3 at *
            generalize w2.heap.size = gC at *
            clear hb
            refine wpAnyH_strong (S' := fun W => PX wr nd d1 yp i pp W ∧ ChrAt W gC (48 + i)) (fun _ h => h.1) ?_
            replace hHeld : PX wr nd d1 yp i pp w3 ∧ ChrAt w3 gC (48 + i) := ⟨hS, hch⟩
            (try simp only [Act.put, zsA, zsB, zsC])
            refine tkB 6 (y := yields_conv (by rfl) _ rfl rfl (fun _ s => s.2.conv)) (h := ?_)
            refine tkA 7 ?_
            refine tkR (rs := [11]) ?_
            refine tkC (fun K hK => ?_) AllReadyH.nil
            have hb := alloc_below w3 (.cells (gcl ⟨starS, 7⟩).toArray 119)
            refine step_build1 gr_okT (by decide) rfl _ rfl (gcl ⟨starS, 7⟩) rfl rfl ?_
            (try simp only [Act.put, zsA, zsB, zsC])
            refine hK.out _ _ (⟨hS.then hb, hch.below hb⟩) ?_
            clear hHeld hK
            intro hHeld
            have hgr : OwnR 119 2 gcl (w3.alloc (.cells (gcl ⟨starS, 7⟩).toArray 119)) wr.heap.size (.slice (some ⟨w3.heap.size, 0, none⟩) 1 1) [⟨starS, 7⟩] := own_oneP gr_okT w3 hBw.size ⟨starS, 7⟩
            have hneA : (Value.slice (some ⟨w3.heap.size, 0, none⟩) 1 1).ownBlock ≠ some gN := fun q => by have h9 : w3.heap.size = gN := Option.some.inj q; have h8 := hz.2; omega
            have hneG : (Value.slice va (wordsN pp.is).length vc).ownBlock ≠ some w3.heap.size := fun q => by have := (hwo.lt q).2; omega
            replace hBw := Below.then hBw hb
            replace hS := hS.then hb
            replace hch := hch.below hb
            replace hwo := hwo.below hb
            replace hz := stab_blk _ _ _ _ hz hb
            generalize w3.alloc (.cells (gcl ⟨starS, 7⟩).toArray 119) = w4 at *
            generalize w3.heap.size = gA at *
            clear hb
            (try simp only [Act.put, zsA, zsB, zsC])
            refine tkA 18 ?_
            refine tkR (rs := [20]) ?_
            refine tkC (fun K hK => ?_) AllReadyH.nil
            obtain ⟨x0, hx0⟩ : ∃ x0 : PN, x0 = ⟨segX (D ++ slpS ++ dgS i) d1.n.label 7 ⟨4, 4, 4, 0⟩ (wordsN pp.is), some ⟨gA, 0, none⟩, 1, va, vc⟩ := ⟨_, rfl⟩
            have hxl : x0.cs.length = 16 := pn_len x0
            have hxs : (Tryz.prog.info? 36).map (·.size) = some x0.cs.length := by rw [hxl]; exact hszN
            obtain ⟨V9, hV9, hth9, hgo, hb9⟩ := put_any hz (ds := x0.cs) (by rw [hxl]; rfl) (by rw [hxl]; decide)
            refine step_store_rowC rfl _ _ rfl gN rfl x0.cs (by rw [hx0]; rfl) hth9 hxs (pn_one x0) hV9 ?_
            (try simp only [Act.put, zsA, zsB, zsC])
            have hk9 : ∀ j, j ≠ gN → V9.heap[j]? = w4.heap[j]? := fun j hj => by rw [← hV9]; exact heap_setCells_other hj _ _ _
            replace hBw := hb9 _ _ hwN hBw
            replace hS := hS00.then hBw
            replace hch : ChrAt V9 gC (48 + i) := hch.kept (hk9 _ (fun q => chr_ne hch hz q)) (hb9 0 w4 (Nat.zero_le _) (Below.refl _ _)).size
            replace hgr : OwnR 119 2 gcl V9 wr.heap.size x0.av x0.n.acl := by rw [hx0]; exact hgr.keep fun j hj => hk9 j (fun q => hneA (by rw [hj, q]))
            replace hwo : OwnR 2 1 wcl V9 wr.heap.size x0.wv x0.n.words := by rw [hx0]; exact hwo.keep fun j hj => hk9 j (fun q => hneW (by rw [hj, q]))
            replace hneA : x0.av.ownBlock ≠ some gN := by rw [hx0]; exact hneA
            replace hneW : x0.wv.ownBlock ≠ some gN := by rw [hx0]; exact hneW
            replace hneG : ∀ g, x0.wv.ownBlock = some g → x0.av.ownBlock ≠ some g := by rw [hx0]; exact fun g h9 h8 => hneG (by have h7 : gA = g := Option.some.inj h8; rw [h7]; exact h9)
            replace hx0 : Aside (x0.n = segX (D ++ slpS ++ dgS i) d1.n.label 7 ⟨4, 4, 4, 0⟩ (wordsN pp.is)) := by rw [hx0]; exact rfl
            clear hk9 hth9 hb9 hV9 hxs hxl hz
            refine hK.out _ _ (⟨hS, hch⟩) ?_
            clear hHeld hK
            intro hHeld
            (try simp only [Act.put, zsA, zsB, zsC])
            refine wpAnyH_done (by kernel_rfl) ?_ _
            clear hHeld
            go_wp2_with fail
            go_meet
            exact ⟨gN, x0, rfl, hBw, hgo, hwN, hx0.out, hgr, hwo, hneA, hneW, hneG⟩
          refine tkC (fun K hK => ?_) AllReadyH.nil
          have hb := alloc_below w2 (.cells (gcl ⟨starS, 7⟩).toArray 119)
          refine step_build1 gr_okT (by decide) rfl _ rfl (gcl ⟨starS, 7⟩) rfl rfl ?_
          (try simp only [Act.put, zsA, zsB, zsC])
          refine hK.out _ _ (hS.then hb) ?_
          clear hHeld hK
          intro hHeld
          have hgr : OwnR 119 2 gcl (w2.alloc (.cells (gcl ⟨starS, 7⟩).toArray 119)) wr.heap.size (.slice (some ⟨w2.heap.size, 0, none⟩) 1 1) [⟨starS, 7⟩] := own_oneP gr_okT w2 hBw.size ⟨starS, 7⟩
          have hneA : (Value.slice (some ⟨w2.heap.size, 0, none⟩) 1 1).ownBlock ≠ some gN := fun q => by have h9 : w2.heap.size = gN := Option.some.inj q; have h8 := hz.2; omega
          have hneG : (Value.slice va (wordsN pp.is).length vc).ownBlock ≠ some w2.heap.size := fun q => by have := (hwo.lt q).2; omega
          replace hBw := Below.then hBw hb
          replace hS := hS.then hb
          replace hwo := hwo.below hb
          replace hz := stab_blk _ _ _ _ hz hb
          generalize w2.alloc (.cells (gcl ⟨starS, 7⟩).toArray 119) = w3 at *
          generalize w2.heap.size = gA at *
          clear hb
          (try simp only [Act.put, zsA, zsB, zsC])
          refine tkR (rs := [5]) ?_
          refine tkC (fun K hK => ?_) AllReadyH.nil
          go_simp
          have hb := alloc_below w3 (.cells #[.int .u8 (48 + (i : Int))] 5)
          refine hK.out _ _ (hS.then hb) ?_
          clear hHeld hK
          intro hHeld
          have hch : ChrAt (w3.alloc (.cells #[.int .u8 (48 + (i : Int))] 5)) w3.heap.size (48 + i) := chr_made2 w3 i (by omega)
          replace hBw := Below.then hBw hb
          replace hS := hS.then hb
          replace hgr := hgr.below hb
          replace hwo := hwo.below hb
          replace hz := stab_blk _ _ _ _ hz hb
          generalize w3.alloc (.cells #[.int .u8 (48 + (i : Int))] 5) = w4 at *
          generalize w3.heap.size = gC at *
          clear hb
          refine wpAnyH_strong (S' := fun W => PX wr nd d1 yp i pp W ∧ ChrAt W gC (48 + i)) (fun _ h => h.1) ?_
          replace hHeld : PX wr nd d1 yp i pp w4 ∧ ChrAt w4 gC (48 + i) := ⟨hS, hch⟩
          (try simp only [Act.put, zsA, zsB, zsC])
          refine tkB 6 (y := yields_conv (by rfl) _ rfl rfl (fun _ s => s.2.conv)) (h := ?_)
          refine tkA 7 ?_
          refine tkA 18 ?_
          refine tkR (rs := [20]) ?_
          refine tkC (fun K hK => ?_) AllReadyH.nil
          obtain ⟨x0, hx0⟩ : ∃ x0 : PN, x0 = ⟨segX (D ++ slpS ++ dgS i) d1.n.label 7 ⟨4, 4, 4, 0⟩ (wordsN pp.is), some ⟨gA, 0, none⟩, 1, va, vc⟩ := ⟨_, rfl⟩
          have hxl : x0.cs.length = 16 := pn_len x0
          have hxs : (Tryz.prog.info? 36).map (·.size) = some x0.cs.length := by rw [hxl]; exact hszN
          obtain ⟨V9, hV9, hth9, hgo, hb9⟩ := put_any hz (ds := x0.cs) (by rw [hxl]; rfl) (by rw [hxl]; decide)
          refine step_store_rowC rfl _ _ rfl gN rfl x0.cs (by rw [hx0]; rfl) hth9 hxs (pn_one x0) hV9 ?_
          (try simp only [Act.put, zsA, zsB, zsC])
          have hk9 : ∀ j, j ≠ gN → V9.heap[j]? = w4.heap[j]? := fun j hj => by rw [← hV9]; exact heap_setCells_other hj _ _ _
          replace hBw := hb9 _ _ hwN hBw
          replace hS := hS00.then hBw
          replace hch : ChrAt V9 gC (48 + i) := hch.kept (hk9 _ (fun q => chr_ne hch hz q)) (hb9 0 w4 (Nat.zero_le _) (Below.refl _ _)).size
          replace hgr : OwnR 119 2 gcl V9 wr.heap.size x0.av x0.n.acl := by rw [hx0]; exact hgr.keep fun j hj => hk9 j (fun q => hneA (by rw [hj, q]))
          replace hwo : OwnR 2 1 wcl V9 wr.heap.size x0.wv x0.n.words := by rw [hx0]; exact hwo.keep fun j hj => hk9 j (fun q => hneW (by rw [hj, q]))
          replace hneA : x0.av.ownBlock ≠ some gN := by rw [hx0]; exact hneA
          replace hneW : x0.wv.ownBlock ≠ some gN := by rw [hx0]; exact hneW
          replace hneG : ∀ g, x0.wv.ownBlock = some g → x0.av.ownBlock ≠ some g := by rw [hx0]; exact fun g h9 h8 => hneG (by have h7 : gA = g := Option.some.inj h8; rw [h7]; exact h9)
          replace hx0 : Aside (x0.n = segX (D ++ slpS ++ dgS i) d1.n.label 7 ⟨4, 4, 4, 0⟩ (wordsN pp.is)) := by rw [hx0]; exact rfl
          clear hk9 hth9 hb9 hV9 hxs hxl hz
          refine hK.out _ _ (⟨hS, hch⟩) ?_
          clear hHeld hK
          intro hHeld
          (try simp only [Act.put, zsA, zsB, zsC])
          refine wpAnyH_done (by kernel_rfl) ?_ _
          clear hHeld
          go_wp2_with fail
          go_meet
          exact ⟨gN, x0, rfl, hBw, hgo, hwN, hx0.out, hgr, hwo, hneA, hneW, hneG⟩
        refine tkC (fun K hK => ?_) AllReadyH.nil
        have hb := alloc_below w0 (.cells ZNP 36)
        refine step_allocC (z := ZNP) rfl rfl (fun _ => rfl) ?_
        (try simp only [Act.put, zsA, zsB, zsC])
        refine hK.out _ _ (hS.then hb) ?_
        clear hHeld hK
        intro hHeld
        have hz : BlkL w0.heap.size zeroP.cs (w0.alloc (.cells ZNP 36)) := blkl_alloc w0 ZNP 36
        have hwN : wr.heap.size ≤ w0.heap.size := hBw.size
        replace hBw := Below.then hBw hb
        replace hS := hS.then hb
        generalize w0.alloc (.cells ZNP 36) = w1 at *
        generalize w0.heap.size = gN at *
        clear hb
        (try simp only [Act.put, zsA, zsB, zsC])
        refine tkR (rs := [5, 11, 17]) ?_
        refine tkC (fun K hK => ?_) ?_
        · go_simp
          have hb := alloc_below w1 (.cells #[.int .u8 (48 + (i : Int))] 5)
          refine hK.out _ _ (hS.then hb) ?_
          clear hHeld hK
          intro hHeld
          have hch : ChrAt (w1.alloc (.cells #[.int .u8 (48 + (i : Int))] 5)) w1.heap.size (48 + i) := chr_made2 w1 i (by omega)
          replace hBw := Below.then hBw hb
          replace hS := hS.then hb
          replace hz := stab_blk _ _ _ _ hz hb
          generalize w1.alloc (.cells #[.int .u8 (48 + (i : Int))] 5) = w2 at *
          generalize w1.heap.size = gC at *
          clear hb
          refine wpAnyH_strong (S' := fun W => PX wr nd d1 yp i pp W ∧ ChrAt W gC (48 + i)) (fun _ h => h.1) ?_
          replace hHeld : PX wr nd d1 yp i pp w2 ∧ ChrAt w2 gC (48 + i) := ⟨hS, hch⟩
          (try simp only [Act.put, zsA, zsB, zsC])
          refine tkB 6 (y := yields_conv (by rfl) _ rfl rfl (fun _ s => s.2.conv)) (h := ?_)
          refine tkA 7 ?_
          refine tkR (rs := [11, 17]) ?_
          refine tkC (fun K hK => ?_) ?_
          · skip
            have hb := alloc_below w2 (.cells (gcl ⟨starS, 7⟩).toArray 119)
            refine step_build1 gr_okT (by decide) rfl _ rfl (gcl ⟨starS, 7⟩) rfl rfl ?_
            (try simp only [Act.put, zsA, zsB, zsC])
            refine hK.out _ _ (⟨hS.then hb, hch.below hb⟩) ?_
            clear hHeld hK
            intro hHeld
            have hgr : OwnR 119 2 gcl (w2.alloc (.cells (gcl ⟨starS, 7⟩).toArray 119)) wr.heap.size (.slice (some ⟨w2.heap.size, 0, none⟩) 1 1) [⟨starS, 7⟩] := own_oneP gr_okT w2 hBw.size ⟨starS, 7⟩
            have hneA : (Value.slice (some ⟨w2.heap.size, 0, none⟩) 1 1).ownBlock ≠ some gN := fun q => by have h9 : w2.heap.size = gN := Option.some.inj q; have h8 := hz.2; omega
            replace hBw := Below.then hBw hb
            replace hS := hS.then hb
            replace hch := hch.below hb
            replace hz := stab_blk _ _ _ _ hz hb
            generalize w2.alloc (.cells (gcl ⟨starS, 7⟩).toArray 119) = w3 at *
            generalize w2.heap.size = gA at *
            clear hb
            (try simp only [Act.put, zsA, zsB, zsC])
            refine tkR (rs := [17]) ?_
            refine tkC (fun K hK => ?_) AllReadyH.nil
            go_simp
            go_at_call 42
            refine (kwd w3 (hpA'.below in_okW.len (Below.then hBr hBw))).mono ?_
            rintro e w4 ⟨vw, rfl, hwo, hb⟩
            obtain ⟨va, vc, hvw, -, -, -⟩ := hwo.slice wd_okC.len
            subst hvw
            have hBw0 : wr.heap.size ≤ w3.heap.size := hBw.size
            have hneW : (Value.slice va (wordsN pp.is).length vc).ownBlock ≠ some gN := fun q => by have h9 := (hwo.lt q).1; have h8 := hz.2; omega
            have hneG : (Value.slice va (wordsN pp.is).length vc).ownBlock ≠ some gA := fun q => by have h9 := (hwo.lt q).1; have h8 : gA < w3.heap.size := (hgr.lt rfl).2; omega
            replace hBw := Below.then hBw hb
            replace hS := hS.then hb
            replace hch := hch.below hb
            replace hgr := hgr.below hb
            replace hz := stab_blk _ _ _ _ hz hb
            replace hwo : OwnR 2 1 wcl w4 wr.heap.size (Value.slice va (wordsN pp.is).length vc) (wordsN pp.is) := hwo.lower hBw0
            clear hb hBw0
            refine hK.out _ _ (⟨hS, hch⟩) ?_
            clear hHeld hK
            intro hHeld
            (try simp only [Act.put, zsA, zsB, zsC])
            refine tkA 18 ?_
            refine tkR (rs := [20]) ?_
            refine tkC (fun K hK => ?_) AllReadyH.nil
            obtain ⟨x0, hx0⟩ : ∃ x0 : PN, x0 = ⟨segX (D ++ slpS ++ dgS i) d1.n.label 7 ⟨4, 4, 4, 0⟩ (wordsN pp.is), some ⟨gA, 0, none⟩, 1, va, vc⟩ := ⟨_, rfl⟩
            have hxl : x0.cs.length = 16 := pn_len x0
            have hxs : (Tryz.prog.info? 36).map (·.size) = some x0.cs.length := by rw [hxl]; exact hszN
            obtain ⟨V9, hV9, hth9, hgo, hb9⟩ := put_any hz (ds := x0.cs) (by rw [hxl]; rfl) (by rw [hxl]; decide)
            refine step_store_rowC rfl _ _ rfl gN rfl x0.cs (by rw [hx0]; rfl) hth9 hxs (pn_one x0) hV9 ?_
            (try simp only [Act.put, zsA, zsB, zsC])
            have hk9 : ∀ j, j ≠ gN → V9.heap[j]? = w4.heap[j]? := fun j hj => by rw [← hV9]; exact heap_setCells_other hj _ _ _
            replace hBw := hb9 _ _ hwN hBw
            replace hS := hS00.then hBw
            replace hch : ChrAt V9 gC (48 + i) := hch.kept (hk9 _ (fun q => chr_ne hch hz q)) (hb9 0 w4 (Nat.zero_le _) (Below.refl _ _)).size
            replace hgr : OwnR 119 2 gcl V9 wr.heap.size x0.av x0.n.acl := by rw [hx0]; exact hgr.keep fun j hj => hk9 j (fun q => hneA (by rw [hj, q]))
            replace hwo : OwnR 2 1 wcl V9 wr.heap.size x0.wv x0.n.words := by rw [hx0]; exact hwo.keep fun j hj => hk9 j (fun q => hneW (by rw [hj, q]))
            replace hneA : x0.av.ownBlock ≠ some gN := by rw [hx0]; exact hneA
            replace hneW : x0.wv.ownBlock ≠ some gN := by rw [hx0]; exact hneW
            replace hneG : ∀ g, x0.wv.ownBlock = some g → x0.av.ownBlock ≠ some g := by rw [hx0]; exact fun g h9 h8 => hneG (by have h7 : gA = g := Option.some.inj h8; rw [h7]; exact h9)
            replace hx0 : Aside (x0.n = segX (D ++ slpS ++ dgS i) d1.n.label 7 ⟨4, 4, 4, 0⟩ (wordsN pp.is)) := by rw [hx0]; exact rfl
            clear hk9 hth9 hb9 hV9 hxs hxl hz
            refine hK.out _ _ (⟨hS, hch⟩) ?_
            clear hHeld hK
            intro hHeld
            (try simp only [Act.put, zsA, zsB, zsC])
            refine wpAnyH_done (by kernel_rfl) ?_ _
            clear hHeld
            go_wp2_with fail
            go_meet
            exact ⟨gN, x0, rfl, hBw, hgo, hwN, hx0.out, hgr, hwo, hneA, hneW, hneG⟩
          refine tkC (fun K hK => ?_) AllReadyH.nil
          go_simp
          go_at_call 42
          refine (kwd w2 (hpA'.below in_okW.len (Below.then hBr hBw))).mono ?_
          rintro e w3 ⟨vw, rfl, hwo, hb⟩
          obtain ⟨va, vc, hvw, -, -, -⟩ := hwo.slice wd_okC.len
          subst hvw
          have hBw0 : wr.heap.size ≤ w2.heap.size := hBw.size
          have hneW : (Value.slice va (wordsN pp.is).length vc).ownBlock ≠ some gN := fun q => by have h9 := (hwo.lt q).1; have h8 := hz.2; omega
          replace hBw := Below.then hBw hb
          replace hS := hS.then hb
          replace hch := hch.below hb
          replace hz := stab_blk _ _ _ _ hz hb
          replace hwo : OwnR 2 1 wcl w3 wr.heap.size (Value.slice va (wordsN pp.is).length vc) (wordsN pp.is) := hwo.lower hBw0
          clear hb hBw0
          refine hK.out _ _ (⟨hS, hch⟩) ?_
          clear hHeld hK
          intro hHeld
          (try simp only [Act.put, zsA, zsB, zsC])
          refine tkR (rs := [11]) ?_
          refine tkC (fun K hK => ?_) AllReadyH.nil
          have hb := alloc_below w3 (.cells (gcl ⟨starS, 7⟩).toArray 119)
          refine step_build1 gr_okT (by decide) rfl _ rfl (gcl ⟨starS, 7⟩) rfl rfl ?_
          (try simp only [Act.put, zsA, zsB, zsC])
          refine hK.out _ _ (⟨hS.then hb, hch.below hb⟩) ?_
          clear hHeld hK
          intro hHeld
          have hgr : OwnR 119 2 gcl (w3.alloc (.cells (gcl ⟨starS, 7⟩).toArray 119)) wr.heap.size (.slice (some ⟨w3.heap.size, 0, none⟩) 1 1) [⟨starS, 7⟩] := own_oneP gr_okT w3 hBw.size ⟨starS, 7⟩
          have hneA : (Value.slice (some ⟨w3.heap.size, 0, none⟩) 1 1).ownBlock ≠ some gN := fun q => by have h9 : w3.heap.size = gN := Option.some.inj q; have h8 := hz.2; omega
          have hneG : (Value.slice va (wordsN pp.is).length vc).ownBlock ≠ some w3.heap.size := fun q => by have := (hwo.lt q).2; omega
          replace hBw := Below.then hBw hb
          replace hS := hS.then hb
          replace hch := hch.below hb
          replace hwo := hwo.below hb
          replace hz := stab_blk _ _ _ _ hz hb
          generalize w3.alloc (.cells (gcl ⟨starS, 7⟩).toArray 119) = w4 at *
          generalize w3.heap.size = gA at *
          clear hb
          (try simp only [Act.put, zsA, zsB, zsC])
          refine tkA 18 ?_
          refine tkR (rs := [20]) ?_
          refine tkC (fun K hK => ?_) AllReadyH.nil
          obtain ⟨x0, hx0⟩ : ∃ x0 : PN, x0 = ⟨segX (D ++ slpS ++ dgS i) d1.n.label 7 ⟨4, 4, 4, 0⟩ (wordsN pp.is), some ⟨gA, 0, none⟩, 1, va, vc⟩ := ⟨_, rfl⟩
          have hxl : x0.cs.length = 16 := pn_len x0
          have hxs : (Tryz.prog.info? 36).map (·.size) = some x0.cs.length := by rw [hxl]; exact hszN
          obtain ⟨V9, hV9, hth9, hgo, hb9⟩ := put_any hz (ds := x0.cs) (by rw [hxl]; rfl) (by rw [hxl]; decide)
          refine step_store_rowC rfl _ _ rfl gN rfl x0.cs (by rw [hx0]; rfl) hth9 hxs (pn_one x0) hV9 ?_
          (try simp only [Act.put, zsA, zsB, zsC])
          have hk9 : ∀ j, j ≠ gN → V9.heap[j]? = w4.heap[j]? := fun j hj => by rw [← hV9]; exact heap_setCells_other hj _ _ _
          replace hBw := hb9 _ _ hwN hBw
          replace hS := hS00.then hBw
          replace hch : ChrAt V9 gC (48 + i) := hch.kept (hk9 _ (fun q => chr_ne hch hz q)) (hb9 0 w4 (Nat.zero_le _) (Below.refl _ _)).size
          replace hgr : OwnR 119 2 gcl V9 wr.heap.size x0.av x0.n.acl := by rw [hx0]; exact hgr.keep fun j hj => hk9 j (fun q => hneA (by rw [hj, q]))
          replace hwo : OwnR 2 1 wcl V9 wr.heap.size x0.wv x0.n.words := by rw [hx0]; exact hwo.keep fun j hj => hk9 j (fun q => hneW (by rw [hj, q]))
          replace hneA : x0.av.ownBlock ≠ some gN := by rw [hx0]; exact hneA
          replace hneW : x0.wv.ownBlock ≠ some gN := by rw [hx0]; exact hneW
          replace hneG : ∀ g, x0.wv.ownBlock = some g → x0.av.ownBlock ≠ some g := by rw [hx0]; exact fun g h9 h8 => hneG (by have h7 : gA = g := Option.some.inj h8; rw [h7]; exact h9)
          replace hx0 : Aside (x0.n = segX (D ++ slpS ++ dgS i) d1.n.label 7 ⟨4, 4, 4, 0⟩ (wordsN pp.is)) := by rw [hx0]; exact rfl
          clear hk9 hth9 hb9 hV9 hxs hxl hz
          refine hK.out _ _ (⟨hS, hch⟩) ?_
          clear hHeld hK
          intro hHeld
          (try simp only [Act.put, zsA, zsB, zsC])
          refine wpAnyH_done (by kernel_rfl) ?_ _
          clear hHeld
          go_wp2_with fail
          go_meet
          exact ⟨gN, x0, rfl, hBw, hgo, hwN, hx0.out, hgr, hwo, hneA, hneW, hneG⟩
        refine tkC (fun K hK => ?_) ?_
        · skip
          have hb := alloc_below w1 (.cells (gcl ⟨starS, 7⟩).toArray 119)
          refine step_build1 gr_okT (by decide) rfl _ rfl (gcl ⟨starS, 7⟩) rfl rfl ?_
          (try simp only [Act.put, zsA, zsB, zsC])
          refine hK.out _ _ (hS.then hb) ?_
          clear hHeld hK
          intro hHeld
          have hgr : OwnR 119 2 gcl (w1.alloc (.cells (gcl ⟨starS, 7⟩).toArray 119)) wr.heap.size (.slice (some ⟨w1.heap.size, 0, none⟩) 1 1) [⟨starS, 7⟩] := own_oneP gr_okT w1 hBw.size ⟨starS, 7⟩
          have hneA : (Value.slice (some ⟨w1.heap.size, 0, none⟩) 1 1).ownBlock ≠ some gN := fun q => by have h9 : w1.heap.size = gN := Option.some.inj q; have h8 := hz.2; omega
          replace hBw := Below.then hBw hb
          replace hS := hS.then hb
          replace hz := stab_blk _ _ _ _ hz hb
          generalize w1.alloc (.cells (gcl ⟨starS, 7⟩).toArray 119) = w2 at *
          generalize w1.heap.size = gA at *
          clear hb
          (try simp only [Act.put, zsA, zsB, zsC])
          refine tkR (rs := [5, 17]) ?_
          refine tkC (fun K hK => ?_) ?_
          · go_simp
            have hb := alloc_below w2 (.cells #[.int .u8 (48 + (i : Int))] 5)
            refine hK.out _ _ (hS.then hb) ?_
            clear hHeld hK
            intro hHeld
            have hch : ChrAt (w2.alloc (.cells #[.int .u8 (48 + (i : Int))] 5)) w2.heap.size (48 + i) := chr_made2 w2 i (by omega)
            replace hBw := Below.then hBw hb
            replace hS := hS.then hb
            replace hgr := hgr.below hb
            replace hz := stab_blk _ _ _ _ hz hb
            generalize w2.alloc (.cells #[.int .u8 (48 + (i : Int))] 5) = w3 at *
            generalize w2.heap.size = gC at *
            clear hb
            refine wpAnyH_strong (S' := fun W => PX wr nd d1 yp i pp W ∧ ChrAt W gC (48 + i)) (fun _ h => h.1) ?_
            replace hHeld : PX wr nd d1 yp i pp w3 ∧ ChrAt w3 gC (48 + i) := ⟨hS, hch⟩
            (try simp only [Act.put, zsA, zsB, zsC])
            refine tkB 6 (y := yields_conv (by rfl) _ rfl rfl (fun _ s => s.2.conv)) (h := ?_)
            refine tkA 7 ?_
            refine tkR (rs := [17]) ?_
            refine tkC (fun K hK => ?_) AllReadyH.nil
            go_simp
            go_at_call 42
            refine (kwd w3 (hpA'.below in_okW.len (Below.then hBr hBw))).mono ?_
            rintro e w4 ⟨vw, rfl, hwo, hb⟩
            obtain ⟨va, vc, hvw, -, -, -⟩ := hwo.slice wd_okC.len
            subst hvw
            have hBw0 : wr.heap.size ≤ w3.heap.size := hBw.size
            have hneW : (Value.slice va (wordsN pp.is).length vc).ownBlock ≠ some gN := fun q => by have h9 := (hwo.lt q).1; have h8 := hz.2; omega
            have hneG : (Value.slice va (wordsN pp.is).length vc).ownBlock ≠ some gA := fun q => by have h9 := (hwo.lt q).1; have h8 : gA < w3.heap.size := (hgr.lt rfl).2; omega
            replace hBw := Below.then hBw hb
            replace hS := hS.then hb
            replace hch := hch.below hb
            replace hgr := hgr.below hb
            replace hz := stab_blk _ _ _ _ hz hb
            replace hwo : OwnR 2 1 wcl w4 wr.heap.size (Value.slice va (wordsN pp.is).length vc) (wordsN pp.is) := hwo.lower hBw0
            clear hb hBw0
            refine hK.out _ _ (⟨hS, hch⟩) ?_
            clear hHeld hK
            intro hHeld
            (try simp only [Act.put, zsA, zsB, zsC])
            refine tkA 18 ?_
            refine tkR (rs := [20]) ?_
            refine tkC (fun K hK => ?_) AllReadyH.nil
            obtain ⟨x0, hx0⟩ : ∃ x0 : PN, x0 = ⟨segX (D ++ slpS ++ dgS i) d1.n.label 7 ⟨4, 4, 4, 0⟩ (wordsN pp.is), some ⟨gA, 0, none⟩, 1, va, vc⟩ := ⟨_, rfl⟩
            have hxl : x0.cs.length = 16 := pn_len x0
            have hxs : (Tryz.prog.info? 36).map (·.size) = some x0.cs.length := by rw [hxl]; exact hszN
            obtain ⟨V9, hV9, hth9, hgo, hb9⟩ := put_any hz (ds := x0.cs) (by rw [hxl]; rfl) (by rw [hxl]; decide)
            refine step_store_rowC rfl _ _ rfl gN rfl x0.cs (by rw [hx0]; rfl) hth9 hxs (pn_one x0) hV9 ?_
            (try simp only [Act.put, zsA, zsB, zsC])
            have hk9 : ∀ j, j ≠ gN → V9.heap[j]? = w4.heap[j]? := fun j hj => by rw [← hV9]; exact heap_setCells_other hj _ _ _
            replace hBw := hb9 _ _ hwN hBw
            replace hS := hS00.then hBw
            replace hch : ChrAt V9 gC (48 + i) := hch.kept (hk9 _ (fun q => chr_ne hch hz q)) (hb9 0 w4 (Nat.zero_le _) (Below.refl _ _)).size
            replace hgr : OwnR 119 2 gcl V9 wr.heap.size x0.av x0.n.acl := by rw [hx0]; exact hgr.keep fun j hj => hk9 j (fun q => hneA (by rw [hj, q]))
            replace hwo : OwnR 2 1 wcl V9 wr.heap.size x0.wv x0.n.words := by rw [hx0]; exact hwo.keep fun j hj => hk9 j (fun q => hneW (by rw [hj, q]))
            replace hneA : x0.av.ownBlock ≠ some gN := by rw [hx0]; exact hneA
            replace hneW : x0.wv.ownBlock ≠ some gN := by rw [hx0]; exact hneW
            replace hneG : ∀ g, x0.wv.ownBlock = some g → x0.av.ownBlock ≠ some g := by rw [hx0]; exact fun g h9 h8 => hneG (by have h7 : gA = g := Option.some.inj h8; rw [h7]; exact h9)
            replace hx0 : Aside (x0.n = segX (D ++ slpS ++ dgS i) d1.n.label 7 ⟨4, 4, 4, 0⟩ (wordsN pp.is)) := by rw [hx0]; exact rfl
            clear hk9 hth9 hb9 hV9 hxs hxl hz
            refine hK.out _ _ (⟨hS, hch⟩) ?_
            clear hHeld hK
            intro hHeld
            (try simp only [Act.put, zsA, zsB, zsC])
            refine wpAnyH_done (by kernel_rfl) ?_ _
            clear hHeld
            go_wp2_with fail
            go_meet
            exact ⟨gN, x0, rfl, hBw, hgo, hwN, hx0.out, hgr, hwo, hneA, hneW, hneG⟩
          refine tkC (fun K hK => ?_) AllReadyH.nil
          go_simp
          go_at_call 42
          refine (kwd w2 (hpA'.below in_okW.len (Below.then hBr hBw))).mono ?_
          rintro e w3 ⟨vw, rfl, hwo, hb⟩
          obtain ⟨va, vc, hvw, -, -, -⟩ := hwo.slice wd_okC.len
          subst hvw
          have hBw0 : wr.heap.size ≤ w2.heap.size := hBw.size
          have hneW : (Value.slice va (wordsN pp.is).length vc).ownBlock ≠ some gN := fun q => by have h9 := (hwo.lt q).1; have h8 := hz.2; omega
          have hneG : (Value.slice va (wordsN pp.is).length vc).ownBlock ≠ some gA := fun q => by have h9 := (hwo.lt q).1; have h8 : gA < w2.heap.size := (hgr.lt rfl).2; omega
          replace hBw := Below.then hBw hb
          replace hS := hS.then hb
          replace hgr := hgr.below hb
          replace hz := stab_blk _ _ _ _ hz hb
          replace hwo : OwnR 2 1 wcl w3 wr.heap.size (Value.slice va (wordsN pp.is).length vc) (wordsN pp.is) := hwo.lower hBw0
          clear hb hBw0
          refine hK.out _ _ (hS) ?_
          clear hHeld hK
          intro hHeld
          (try simp only [Act.put, zsA, zsB, zsC])
          refine tkR (rs := [5]) ?_
          refine tkC (fun K hK => ?_) AllReadyH.nil
          go_simp
          have hb := alloc_below w3 (.cells #[.int .u8 (48 + (i : Int))] 5)
          refine hK.out _ _ (hS.then hb) ?_
          clear hHeld hK
          intro hHeld
          have hch : ChrAt (w3.alloc (.cells #[.int .u8 (48 + (i : Int))] 5)) w3.heap.size (48 + i) := chr_made2 w3 i (by omega)
          replace hBw := Below.then hBw hb
          replace hS := hS.then hb
          replace hgr := hgr.below hb
          replace hwo := hwo.below hb
          replace hz := stab_blk _ _ _ _ hz hb
          generalize w3.alloc (.cells #[.int .u8 (48 + (i : Int))] 5) = w4 at *
          generalize w3.heap.size = gC at *
          clear hb
          refine wpAnyH_strong (S' := fun W => PX wr nd d1 yp i pp W ∧ ChrAt W gC (48 + i)) (fun _ h => h.1) ?_
          replace hHeld : PX wr nd d1 yp i pp w4 ∧ ChrAt w4 gC (48 + i) := ⟨hS, hch⟩
          (try simp only [Act.put, zsA, zsB, zsC])
          refine tkB 6 (y := yields_conv (by rfl) _ rfl rfl (fun _ s => s.2.conv)) (h := ?_)
          refine tkA 7 ?_
          refine tkA 18 ?_
          refine tkR (rs := [20]) ?_
          refine tkC (fun K hK => ?_) AllReadyH.nil
          obtain ⟨x0, hx0⟩ : ∃ x0 : PN, x0 = ⟨segX (D ++ slpS ++ dgS i) d1.n.label 7 ⟨4, 4, 4, 0⟩ (wordsN pp.is), some ⟨gA, 0, none⟩, 1, va, vc⟩ := ⟨_, rfl⟩
          have hxl : x0.cs.length = 16 := pn_len x0
          have hxs : (Tryz.prog.info? 36).map (·.size) = some x0.cs.length := by rw [hxl]; exact hszN
          obtain ⟨V9, hV9, hth9, hgo, hb9⟩ := put_any hz (ds := x0.cs) (by rw [hxl]; rfl) (by rw [hxl]; decide)
          refine step_store_rowC rfl _ _ rfl gN rfl x0.cs (by rw [hx0]; rfl) hth9 hxs (pn_one x0) hV9 ?_
          (try simp only [Act.put, zsA, zsB, zsC])
          have hk9 : ∀ j, j ≠ gN → V9.heap[j]? = w4.heap[j]? := fun j hj => by rw [← hV9]; exact heap_setCells_other hj _ _ _
          replace hBw := hb9 _ _ hwN hBw
          replace hS := hS00.then hBw
          replace hch : ChrAt V9 gC (48 + i) := hch.kept (hk9 _ (fun q => chr_ne hch hz q)) (hb9 0 w4 (Nat.zero_le _) (Below.refl _ _)).size
          replace hgr : OwnR 119 2 gcl V9 wr.heap.size x0.av x0.n.acl := by rw [hx0]; exact hgr.keep fun j hj => hk9 j (fun q => hneA (by rw [hj, q]))
          replace hwo : OwnR 2 1 wcl V9 wr.heap.size x0.wv x0.n.words := by rw [hx0]; exact hwo.keep fun j hj => hk9 j (fun q => hneW (by rw [hj, q]))
          replace hneA : x0.av.ownBlock ≠ some gN := by rw [hx0]; exact hneA
          replace hneW : x0.wv.ownBlock ≠ some gN := by rw [hx0]; exact hneW
          replace hneG : ∀ g, x0.wv.ownBlock = some g → x0.av.ownBlock ≠ some g := by rw [hx0]; exact fun g h9 h8 => hneG (by have h7 : gA = g := Option.some.inj h8; rw [h7]; exact h9)
          replace hx0 : Aside (x0.n = segX (D ++ slpS ++ dgS i) d1.n.label 7 ⟨4, 4, 4, 0⟩ (wordsN pp.is)) := by rw [hx0]; exact rfl
          clear hk9 hth9 hb9 hV9 hxs hxl hz
          refine hK.out _ _ (⟨hS, hch⟩) ?_
          clear hHeld hK
          intro hHeld
          (try simp only [Act.put, zsA, zsB, zsC])
          refine wpAnyH_done (by kernel_rfl) ?_ _
          clear hHeld
          go_wp2_with fail
          go_meet
          exact ⟨gN, x0, rfl, hBw, hgo, hwN, hx0.out, hgr, hwo, hneA, hneW, hneG⟩
        refine tkC (fun K hK => ?_) AllReadyH.nil
        go_simp
        go_at_call 42
        refine (kwd w1 (hpA'.below in_okW.len (Below.then hBr hBw))).mono ?_
        rintro e w2 ⟨vw, rfl, hwo, hb⟩
        obtain ⟨va, vc, hvw, -, -, -⟩ := hwo.slice wd_okC.len
        subst hvw
        have hBw0 : wr.heap.size ≤ w1.heap.size := hBw.size
        have hneW : (Value.slice va (wordsN pp.is).length vc).ownBlock ≠ some gN := fun q => by have h9 := (hwo.lt q).1; have h8 := hz.2; omega
        replace hBw := Below.then hBw hb
        replace hS := hS.then hb
        replace hz := stab_blk _ _ _ _ hz hb
        replace hwo : OwnR 2 1 wcl w2 wr.heap.size (Value.slice va (wordsN pp.is).length vc) (wordsN pp.is) := hwo.lower hBw0
        clear hb hBw0
        refine hK.out _ _ (hS) ?_
        clear hHeld hK
        intro hHeld
        (try simp only [Act.put, zsA, zsB, zsC])
        refine tkR (rs := [5, 11]) ?_
        refine tkC (fun K hK => ?_) ?_
        · go_simp
          have hb := alloc_below w2 (.cells #[.int .u8 (48 + (i : Int))] 5)
          refine hK.out _ _ (hS.then hb) ?_
          clear hHeld hK
          intro hHeld
          have hch : ChrAt (w2.alloc (.cells #[.int .u8 (48 + (i : Int))] 5)) w2.heap.size (48 + i) := chr_made2 w2 i (by omega)
          replace hBw := Below.then hBw hb
          replace hS := hS.then hb
          replace hwo := hwo.below hb
          replace hz := stab_blk _ _ _ _ hz hb
          generalize w2.alloc (.cells #[.int .u8 (48 + (i : Int))] 5) = w3 at *
          generalize w2.heap.size = gC at *
          clear hb
          refine wpAnyH_strong (S' := fun W => PX wr nd d1 yp i pp W ∧ ChrAt W gC (48 + i)) (fun _ h => h.1) ?_
          replace hHeld : PX wr nd d1 yp i pp w3 ∧ ChrAt w3 gC (48 + i) := ⟨hS, hch⟩
          (try simp only [Act.put, zsA, zsB, zsC])
          refine tkB 6 (y := yields_conv (by rfl) _ rfl rfl (fun _ s => s.2.conv)) (h := ?_)
          refine tkA 7 ?_
          refine tkR (rs := [11]) ?_
          refine tkC (fun K hK => ?_) AllReadyH.nil
          have hb := alloc_below w3 (.cells (gcl ⟨starS, 7⟩).toArray 119)
          refine step_build1 gr_okT (by decide) rfl _ rfl (gcl ⟨starS, 7⟩) rfl rfl ?_
          (try simp only [Act.put, zsA, zsB, zsC])
          refine hK.out _ _ (⟨hS.then hb, hch.below hb⟩) ?_
          clear hHeld hK
          intro hHeld
          have hgr : OwnR 119 2 gcl (w3.alloc (.cells (gcl ⟨starS, 7⟩).toArray 119)) wr.heap.size (.slice (some ⟨w3.heap.size, 0, none⟩) 1 1) [⟨starS, 7⟩] := own_oneP gr_okT w3 hBw.size ⟨starS, 7⟩
          have hneA : (Value.slice (some ⟨w3.heap.size, 0, none⟩) 1 1).ownBlock ≠ some gN := fun q => by have h9 : w3.heap.size = gN := Option.some.inj q; have h8 := hz.2; omega
          have hneG : (Value.slice va (wordsN pp.is).length vc).ownBlock ≠ some w3.heap.size := fun q => by have := (hwo.lt q).2; omega
          replace hBw := Below.then hBw hb
          replace hS := hS.then hb
          replace hch := hch.below hb
          replace hwo := hwo.below hb
          replace hz := stab_blk _ _ _ _ hz hb
          generalize w3.alloc (.cells (gcl ⟨starS, 7⟩).toArray 119) = w4 at *
          generalize w3.heap.size = gA at *
          clear hb
          (try simp only [Act.put, zsA, zsB, zsC])
          refine tkA 18 ?_
          refine tkR (rs := [20]) ?_
          refine tkC (fun K hK => ?_) AllReadyH.nil
          obtain ⟨x0, hx0⟩ : ∃ x0 : PN, x0 = ⟨segX (D ++ slpS ++ dgS i) d1.n.label 7 ⟨4, 4, 4, 0⟩ (wordsN pp.is), some ⟨gA, 0, none⟩, 1, va, vc⟩ := ⟨_, rfl⟩
          have hxl : x0.cs.length = 16 := pn_len x0
          have hxs : (Tryz.prog.info? 36).map (·.size) = some x0.cs.length := by rw [hxl]; exact hszN
          obtain ⟨V9, hV9, hth9, hgo, hb9⟩ := put_any hz (ds := x0.cs) (by rw [hxl]; rfl) (by rw [hxl]; decide)
          refine step_store_rowC rfl _ _ rfl gN rfl x0.cs (by rw [hx0]; rfl) hth9 hxs (pn_one x0) hV9 ?_
          (try simp only [Act.put, zsA, zsB, zsC])
          have hk9 : ∀ j, j ≠ gN → V9.heap[j]? = w4.heap[j]? := fun j hj => by rw [← hV9]; exact heap_setCells_other hj _ _ _
          replace hBw := hb9 _ _ hwN hBw
          replace hS := hS00.then hBw
          replace hch : ChrAt V9 gC (48 + i) := hch.kept (hk9 _ (fun q => chr_ne hch hz q)) (hb9 0 w4 (Nat.zero_le _) (Below.refl _ _)).size
          replace hgr : OwnR 119 2 gcl V9 wr.heap.size x0.av x0.n.acl := by rw [hx0]; exact hgr.keep fun j hj => hk9 j (fun q => hneA (by rw [hj, q]))
          replace hwo : OwnR 2 1 wcl V9 wr.heap.size x0.wv x0.n.words := by rw [hx0]; exact hwo.keep fun j hj => hk9 j (fun q => hneW (by rw [hj, q]))
          replace hneA : x0.av.ownBlock ≠ some gN := by rw [hx0]; exact hneA
          replace hneW : x0.wv.ownBlock ≠ some gN := by rw [hx0]; exact hneW
          replace hneG : ∀ g, x0.wv.ownBlock = some g → x0.av.ownBlock ≠ some g := by rw [hx0]; exact fun g h9 h8 => hneG (by have h7 : gA = g := Option.some.inj h8; rw [h7]; exact h9)
          replace hx0 : Aside (x0.n = segX (D ++ slpS ++ dgS i) d1.n.label 7 ⟨4, 4, 4, 0⟩ (wordsN pp.is)) := by rw [hx0]; exact rfl
          clear hk9 hth9 hb9 hV9 hxs hxl hz
          refine hK.out _ _ (⟨hS, hch⟩) ?_
          clear hHeld hK
          intro hHeld
          (try simp only [Act.put, zsA, zsB, zsC])
          refine wpAnyH_done (by kernel_rfl) ?_ _
          clear hHeld
          go_wp2_with fail
          go_meet
          exact ⟨gN, x0, rfl, hBw, hgo, hwN, hx0.out, hgr, hwo, hneA, hneW, hneG⟩
        refine tkC (fun K hK => ?_) AllReadyH.nil
        have hb := alloc_below w2 (.cells (gcl ⟨starS, 7⟩).toArray 119)
        refine step_build1 gr_okT (by decide) rfl _ rfl (gcl ⟨starS, 7⟩) rfl rfl ?_
        (try simp only [Act.put, zsA, zsB, zsC])
        refine hK.out _ _ (hS.then hb) ?_
        clear hHeld hK
        intro hHeld
        have hgr : OwnR 119 2 gcl (w2.alloc (.cells (gcl ⟨starS, 7⟩).toArray 119)) wr.heap.size (.slice (some ⟨w2.heap.size, 0, none⟩) 1 1) [⟨starS, 7⟩] := own_oneP gr_okT w2 hBw.size ⟨starS, 7⟩
        have hneA : (Value.slice (some ⟨w2.heap.size, 0, none⟩) 1 1).ownBlock ≠ some gN := fun q => by have h9 : w2.heap.size = gN := Option.some.inj q; have h8 := hz.2; omega
        have hneG : (Value.slice va (wordsN pp.is).length vc).ownBlock ≠ some w2.heap.size := fun q => by have := (hwo.lt q).2; omega
        replace hBw := Below.then hBw hb
        replace hS := hS.then hb
        replace hwo := hwo.below hb
        replace hz := stab_blk _ _ _ _ hz hb
        generalize w2.alloc (.cells (gcl ⟨starS, 7⟩).toArray 119) = w3 at *
        generalize w2.heap.size = gA at *
        clear hb
        (try simp only [Act.put, zsA, zsB, zsC])
        refine tkR (rs := [5]) ?_
        refine tkC (fun K hK => ?_) AllReadyH.nil
        go_simp
        have hb := alloc_below w3 (.cells #[.int .u8 (48 + (i : Int))] 5)
        refine hK.out _ _ (hS.then hb) ?_
        clear hHeld hK
        intro hHeld
        have hch : ChrAt (w3.alloc (.cells #[.int .u8 (48 + (i : Int))] 5)) w3.heap.size (48 + i) := chr_made2 w3 i (by omega)
        replace hBw := Below.then hBw hb
        replace hS := hS.then hb
        replace hgr := hgr.below hb
        replace hwo := hwo.below hb
        replace hz := stab_blk _ _ _ _ hz hb
        generalize w3.alloc (.cells #[.int .u8 (48 + (i : Int))] 5) = w4 at *
        generalize w3.heap.size = gC at *
        clear hb
        refine wpAnyH_strong (S' := fun W => PX wr nd d1 yp i pp W ∧ ChrAt W gC (48 + i)) (fun _ h => h.1) ?_
        replace hHeld : PX wr nd d1 yp i pp w4 ∧ ChrAt w4 gC (48 + i) := ⟨hS, hch⟩
        (try simp only [Act.put, zsA, zsB, zsC])
        refine tkB 6 (y := yields_conv (by rfl) _ rfl rfl (fun _ s => s.2.conv)) (h := ?_)
        refine tkA 7 ?_
        refine tkA 18 ?_
        refine tkR (rs := [20]) ?_
        refine tkC (fun K hK => ?_) AllReadyH.nil
        obtain ⟨x0, hx0⟩ : ∃ x0 : PN, x0 = ⟨segX (D ++ slpS ++ dgS i) d1.n.label 7 ⟨4, 4, 4, 0⟩ (wordsN pp.is), some ⟨gA, 0, none⟩, 1, va, vc⟩ := ⟨_, rfl⟩
        have hxl : x0.cs.length = 16 := pn_len x0
        have hxs : (Tryz.prog.info? 36).map (·.size) = some x0.cs.length := by rw [hxl]; exact hszN
        obtain ⟨V9, hV9, hth9, hgo, hb9⟩ := put_any hz (ds := x0.cs) (by rw [hxl]; rfl) (by rw [hxl]; decide)
        refine step_store_rowC rfl _ _ rfl gN rfl x0.cs (by rw [hx0]; rfl) hth9 hxs (pn_one x0) hV9 ?_
        (try simp only [Act.put, zsA, zsB, zsC])
        have hk9 : ∀ j, j ≠ gN → V9.heap[j]? = w4.heap[j]? := fun j hj => by rw [← hV9]; exact heap_setCells_other hj _ _ _
        replace hBw := hb9 _ _ hwN hBw
        replace hS := hS00.then hBw
        replace hch : ChrAt V9 gC (48 + i) := hch.kept (hk9 _ (fun q => chr_ne hch hz q)) (hb9 0 w4 (Nat.zero_le _) (Below.refl _ _)).size
        replace hgr : OwnR 119 2 gcl V9 wr.heap.size x0.av x0.n.acl := by rw [hx0]; exact hgr.keep fun j hj => hk9 j (fun q => hneA (by rw [hj, q]))
        replace hwo : OwnR 2 1 wcl V9 wr.heap.size x0.wv x0.n.words := by rw [hx0]; exact hwo.keep fun j hj => hk9 j (fun q => hneW (by rw [hj, q]))
        replace hneA : x0.av.ownBlock ≠ some gN := by rw [hx0]; exact hneA
        replace hneW : x0.wv.ownBlock ≠ some gN := by rw [hx0]; exact hneW
        replace hneG : ∀ g, x0.wv.ownBlock = some g → x0.av.ownBlock ≠ some g := by rw [hx0]; exact fun g h9 h8 => hneG (by have h7 : gA = g := Option.some.inj h8; rw [h7]; exact h9)
        replace hx0 : Aside (x0.n = segX (D ++ slpS ++ dgS i) d1.n.label 7 ⟨4, 4, 4, 0⟩ (wordsN pp.is)) := by rw [hx0]; exact rfl
        clear hk9 hth9 hb9 hV9 hxs hxl hz
        refine hK.out _ _ (⟨hS, hch⟩) ?_
        clear hHeld hK
        intro hHeld
        (try simp only [Act.put, zsA, zsB, zsC])
        refine wpAnyH_done (by kernel_rfl) ?_ _
        clear hHeld
        go_wp2_with fail
        go_meet
        exact ⟨gN, x0, rfl, hBw, hgo, hwN, hx0.out, hgr, hwo, hneA, hneW, hneG⟩
      case rest =>
        clear hS hBw hbd hu8 kwd hsl hsg
        obtain ⟨gN, x0, rfl, hBw, hgo, hwN, hx0, hgr, hwo, hneA, hneW, hneG⟩ := hcut
        rw [← hD.out] at hx0
        have hx0n : Aside (x0.n = segX (pS j i) d1.n.label 7 ⟨4, 4, 4, 0⟩ (wordsN pp.is)) := hx0
        have hal : x0.n.acl = [⟨starS, 7⟩] := by rw [hx0]; rfl
        have hacl : x0.n.acl.length = 1 := by rw [hal]; rfl
        obtain ⟨gA, ca, hav, hgB, hgl⟩ := hgr.formR (by rw [hacl]; decide)
        have hav2 := hav
        unfold PN.av at hav2
        injection hav2 with e1 e2 e3
        have hgAN : gA ≠ gN := fun q => hneA (by rw [hav, q]; rfl)
        have h6 : x0.cs[6]? = some (.slice (some ⟨gA, 0, none⟩) 1 ca) := by
          show some (Value.slice x0.aa x0.n.acl.length x0.ca) = _
          rw [e1, e3, hacl]
        clear hx0 e2
        by_cases hmi : i < ms.length
        · obtain ⟨mo, hmo⟩ : ∃ mo, ms[i]? = some mo := ⟨_, List.getElem?_eq_getElem hmi⟩
          have i4 : (i : Int) < (nm : Int) := by rw [← hnm.out]; omega
          obtain ⟨ym, rfl, hyc⟩ := (hms.below icell_len hBr) i mo hmo
          have hyr : wr.cell? (ym.add i) = some (.int .i64 mo) := by
            have := hyc 0 (by decide)
            rw [Nat.mul_one, Nat.add_zero] at this
            exact this
          have hylt : (ym.add i).block < wr.heap.size := World.block_lt_of_cell? _ _ hyr
          have hym0 : wc.cell? (ym.add i) = some (.int .i64 mo) := (hBw.cell hylt).trans hyr
          have hgd : ms.getD i 0 = mo := by rw [List.getD_eq_getElem?_getD, hmo]; rfl
          clear hyc
          go_wp2_with fail
          refine (kw mo wc).mono ?_
          rintro e W8 ⟨rfl, rfl⟩
          by_cases hmp : 0 < mo % 8
          · have hmd : mdX ms i = mo % 8 := by
              unfold mdX
              rw [hgd, if_pos ⟨hmi, hmp⟩]
            obtain ⟨x2, hx2⟩ : ∃ x2 : PN, x2 = { x0 with n := { x0.n with acl := [⟨starS, mo % 8⟩] } } := ⟨_, rfl⟩
            have hx2c : x2.cs = x0.cs := by
              rw [hx2]
              unfold PN.cs nclT
              simp only [hacl]
              rfl
            have hx2n : Aside (x2.n = segX (pS j i) d1.n.label (mdX ms i) ⟨4, 4, 4, 0⟩ (wordsN pp.is)) := by
              show _ = _
              rw [hx2, hmd, hx0n.out]
              rfl
            have hdr : Below W8.heap.size W8 W8.drew := (Below.refl _ _).drew
            have hS : BlkL gN x0.cs W8.drew ∧ W8.drew.cell? (ym.add i) = some (.int .i64 mo) := ⟨stab_blk _ _ _ _ hgo hdr, hym0⟩
            have hgo0 := hS.1
            have hgr0 := hgr.below hdr
            rw [hav, hal] at hgr0
            have hwo0 := hwo.below hdr
            have hBw2 : Below wr.heap.size wr W8.drew := hBw.drew
            clear hdr
            go_upto_region 9 with fail
            refine wp_region_held_drew (S := (fun W => BlkL gN x0.cs W ∧ W.cell? (ym.add i) = some (.int .i64 mo))) (by kernel_rfl) (by exact hS) ?_
            intro hHeld
            generalize W8.drew = w0 at *
            refine tkA 0 ?_
            refine tkB 1 (y := yields_cellI (by rfl) _ rfl ⟨gN, 6, none⟩ rfl (.slice (some ⟨gA, 0, none⟩) 1 ca) (fun _ s => (s.1.1 6 _ h6).1) grsP_load) (h := ?_)
            refine tkA 2 ?_
            refine tkA 3 ?_
            refine tkA 4 ?_
            refine tkB 5 (y := yields_cellI (by rfl) _ rfl (ym.add i) rfl (.int .i64 mo) (fun _ s => s.2) intP_load) (h := ?_)
            refine tkR (rs := [6]) ?_
            refine tkC (fun K hK => ?_) AllReadyH.nil
            go_simp
            refine (kw mo w0).mono ?_
            rintro e w1 ⟨rfl, rfl⟩
            refine hK.out _ _ (hS) ?_
            clear hHeld hK
            intro hHeld
            (try simp only [Act.put, zsA, zsB, zsC])
            refine tkA 7 ?_
            refine tkA 8 ?_
            refine tkR (rs := [9]) ?_
            refine tkC (fun K hK => ?_) AllReadyH.nil
            obtain ⟨hga2, hf9, z9, hq9⟩ : OwnR 119 2 gcl (w1.setCell ⟨gA, 1, none⟩ (.int .i64 (mo % 8))) wr.heap.size (.slice (some ⟨gA, 0, none⟩) 1 ca) [⟨starS, mo % 8⟩] ∧ w1.frozen? ⟨gA, 1, none⟩ = false ∧ ∃ z, w1.cell? ⟨gA, 1, none⟩ = some z := OwnR.storedR (f := gcl) (j := 0) (o := 1) (x := ⟨starS, 7⟩) (y := ⟨starS, mo % 8⟩) (n := 1) (fun _ => rfl) hgr0 rfl rfl (by decide) rfl
            have hgo2 : BlkL gN x0.cs (w1.setCell ⟨gA, 1, none⟩ (.int .i64 (mo % 8))) := blk_setO hgo0 (Ne.symm hgAN) 1 _
            have hwo2 : OwnR 2 1 wcl (w1.setCell ⟨gA, 1, none⟩ (.int .i64 (mo % 8))) wr.heap.size x0.wv x0.n.words := hwo0.set (fun q => hneG gA q (by rw [hav]; rfl))
            have hBw_x2 := hBw2.setCell (p := ⟨gA, 1, none⟩) hgB (.int .i64 (mo % 8))
            have hym2 : (w1.setCell ⟨gA, 1, none⟩ (.int .i64 (mo % 8))).cell? (ym.add i) = some (.int .i64 mo) := by
              rw [hBw_x2.cell hylt, ← hBw2.cell hylt]
              exact hS.2
            refine step_st rfl _ _ rfl ⟨gA, 1, none⟩ rfl (.int .i64 (mo % 8)) rfl (intP_store _ _ _ _ hq9 hf9) ?_
            (try simp only [Act.put, zsA, zsB, zsC])
            refine hK.out _ _ (⟨hgo2, hym2⟩) ?_
            clear hHeld hK
            intro hHeld
            clear hf9 hq9 hym2
            generalize w1.setCell ⟨gA, 1, none⟩ (.int .i64 (mo % 8)) = V0 at *
            (try simp only [Act.put, zsA, zsB, zsC])
            refine wpAnyH_done (by kernel_rfl) ?_ _
            clear hHeld
            have hav3 : x2.av = .slice (some ⟨gA, 0, none⟩) 1 ca := by
              rw [hx2]
              show Value.slice x0.aa 1 x0.ca = _
              rw [e1, e3]
            have hgo_x2 : BlkL gN x2.cs V0 := by rw [hx2c]; exact hgo2
            have hgr_x2 : OwnR 119 2 gcl V0 wr.heap.size x2.av x2.n.acl := by
              rw [hav3, hx2]
              exact hga2
            have hwo_x2 : OwnR 2 1 wcl V0 wr.heap.size x2.wv x2.n.words := by
              rw [hx2]
              exact hwo2
            have hneA2 : x2.av.ownBlock ≠ some gN := by
              rw [hav3]
              exact fun q => hgAN (Option.some.inj q)
            have hneW2 : x2.wv.ownBlock ≠ some gN := by
              rw [hx2]
              exact hneW
            clear hx2 hgo2 hga2 hwo2 hneA hneW hneG hav e1 e3 hx2c hgo hgr hwo hgo0 hgr0 hwo0 hS hBw hBw2
            by_cases hri : i < rs.length
            · obtain ⟨rg, hrg⟩ : ∃ rg, rs[i]? = some rg := ⟨_, List.getElem?_eq_getElem hri⟩
              have i6 : (i : Int) < (nr : Int) := by rw [← hnr.out]; omega
              obtain ⟨yr, rfl, hyc⟩ := (hrsR.below rg_len (Below.then hBr hBw_x2)) i rg hrg
              have hrat : CellsAt V0 (yr.add (i * 4)) (rgcl rg) := (hrsR.below rg_len (Below.then hBr hBw_x2)).at rg_len hrg
              have hrgx : rgX rs i = goodR rg := by
                unfold rgX
                rw [if_pos hri, List.getD_eq_getElem?_getD, hrg]
                rfl
              have kg := rggood_any rg V0
              clear hyc
              go_upto_region 11 with fail
              go_wp2_with (first | (refine wpList_load_at rfl _ rfl (yr.add (i * 4)) rfl (rgcl rg) hrat hundR rfl hsr ?_) | fail)
              refine kg.mono ?_
              rintro e V1 ⟨rfl, hb1⟩
              obtain ⟨V2, hV2, hth2, hg2, hb2⟩ := put_mid (Z := wr) (stab_blk _ _ _ _ hgo_x2 hb1) 7 (rgcl (goodR rg)) (by rw [pn_len, rg_len]; decide) (by rw [pn_len]; decide) (Below.then hBw_x2 hb1) hwN
              obtain ⟨x3, hx3⟩ : ∃ x3 : PN, x3 = { x2 with n := { x2.n with r1 := (goodR rg).a, r2 := (goodR rg).b, r3 := (goodR rg).c, gates := (goodR rg).g } } := ⟨_, rfl⟩
              have hg3 : BlkL gN x3.cs V2 := by rw [hx3]; exact hg2
              have hx3n : Aside (x3.n = segX (pS j i) d1.n.label (mdX ms i) (rgX rs i) (wordsN pp.is)) := by
                show _ = _
                rw [hx3, hrgx, hx2n.out]
                rfl
              have hk2 : ∀ q, q ≠ gN → V2.heap[q]? = V1.heap[q]? := fun q hq => by rw [← hV2]; exact heap_setCells_other hq _ _ _
              have hga3 : OwnR 119 2 gcl V2 wr.heap.size x3.av x3.n.acl := by rw [hx3]; exact (hgr_x2.below hb1).keep fun q hq => hk2 q (fun z => hneA2 (by rw [← z]; exact hq))
              have hwo3 : OwnR 2 1 wcl V2 wr.heap.size x3.wv x3.n.words := by rw [hx3]; exact (hwo_x2.below hb1).keep fun q hq => hk2 q (fun z => hneW2 (by rw [← z]; exact hq))
              have hxa3 := own_at hga3 hwo3
              clear hx3
              have hBr3 : Below wr.heap.size wr V2 := hb2
              have hrow3 := hrow.below hBr3
              have hxs3 : (Tryz.prog.info? 36).map (·.size) = some x3.cs.length := by rw [pn_len]; exact hszN
              have hgr3 := hg3.range
              have hrgo := rg_one (goodR rg)
              have hsr2 : (Tryz.prog.info? 33).map (·.size) = some (rgcl (goodR rg)).length := hsr
              go_wp2_with (first | (refine wpList_store_part rfl _ _ rfl gN 7 rfl (rgcl (goodR rg)) rfl hth2 hsr2 hrgo hV2 ?_) | (refine wpList_load_row rfl _ rfl gN rfl x3.cs hgr3 hundN rfl hxs3 ?_) | fail)
              refine (kput V2 a1 c1 l1 x3 hll hrow3).mono ?_
              rintro e W9 ⟨v9, rfl, ho9, hb9⟩
              obtain ⟨a9, c9, hv9, -, -, -⟩ := ho9.slice pn_len
              subst hv9
              have hf9 : ∃ l9 : List PN, RowN W9 a9 l9 ∧ namesP l9 = putsX j d1.n.label (ps.map (·.is)) ms rs (i + 1) (namesP l) ∧ l9.length = (putP l1 x3).length ∧ l9.length ≤ l1.length + 1 := ⟨putP l1 x3, put_rowN ho9 hrow3 hxa3 hb9, by rw [put_names, hl1.out, putsX_next, hx3n.out]; unfold putX; rw [hpin.out], rfl, put_len l1 x3⟩
              obtain ⟨l9, hr9, hn9, hle9, hlen9⟩ := hf9
              rw [← hle9]
              have hBB9 := Below.then hBr3 hb9
              have hnd9 := stab_blk _ _ _ _ hnd hBB9
              clear ho9 hb9 hrow3 hxa3 hBr3 hle9
              go_wp2_with fail
              exact ⟨⟨i + 1, l9, a9, c9, by omega, by omega, by simp, rfl, hr9, hn9, by omega, hnd9, Below.then hBr hBB9⟩, by simp [Go.RowKit.intOf]; omega⟩
            · have i6 : ¬ (i : Int) < (nr : Int) := by rw [← hnr.out]; omega
              have hrgx : rgX rs i = ⟨4, 4, 4, 0⟩ := by
                unfold rgX
                rw [if_neg hri]
              obtain ⟨x3, hx3⟩ : ∃ x3, x3 = x2 := ⟨_, rfl⟩
              rw [← hx3] at hgo_x2 hgr_x2 hwo_x2 hx2n
              clear hx3
              have hx3n : Aside (x3.n = segX (pS j i) d1.n.label (mdX ms i) (rgX rs i) (wordsN pp.is)) := by
                show _ = _
                rw [hrgx, hx2n.out]
              have hxa3 := own_at hgr_x2 hwo_x2
              have hBr3 : Below wr.heap.size wr V0 := hBw_x2
              have hrow3 := hrow.below hBr3
              have hxs3 : (Tryz.prog.info? 36).map (·.size) = some x3.cs.length := by rw [pn_len]; exact hszN
              have hgr3 := hgo_x2.range
              go_wp2_with (first | (refine wpList_load_row rfl _ rfl gN rfl x3.cs hgr3 hundN rfl hxs3 ?_) | fail)
              refine (kput V0 a1 c1 l1 x3 hll hrow3).mono ?_
              rintro e W9 ⟨v9, rfl, ho9, hb9⟩
              obtain ⟨a9, c9, hv9, -, -, -⟩ := ho9.slice pn_len
              subst hv9
              have hf9 : ∃ l9 : List PN, RowN W9 a9 l9 ∧ namesP l9 = putsX j d1.n.label (ps.map (·.is)) ms rs (i + 1) (namesP l) ∧ l9.length = (putP l1 x3).length ∧ l9.length ≤ l1.length + 1 := ⟨putP l1 x3, put_rowN ho9 hrow3 hxa3 hb9, by rw [put_names, hl1.out, putsX_next, hx3n.out]; unfold putX; rw [hpin.out], rfl, put_len l1 x3⟩
              obtain ⟨l9, hr9, hn9, hle9, hlen9⟩ := hf9
              rw [← hle9]
              have hBB9 := Below.then hBr3 hb9
              have hnd9 := stab_blk _ _ _ _ hnd hBB9
              clear ho9 hb9 hrow3 hxa3 hBr3 hle9
              go_wp2_with fail
              exact ⟨⟨i + 1, l9, a9, c9, by omega, by omega, by simp, rfl, hr9, hn9, by omega, hnd9, Below.then hBr hBB9⟩, by simp [Go.RowKit.intOf]; omega⟩
          · have hmd : mdX ms i = 7 := by
              unfold mdX
              rw [hgd, if_neg (fun q => hmp q.2)]
            have hx2n : Aside (x0.n = segX (pS j i) d1.n.label (mdX ms i) ⟨4, 4, 4, 0⟩ (wordsN pp.is)) := by
              show _ = _
              rw [hmd, hx0n.out]
            have hneA2 := hneA
            have hneW2 := hneW
            clear hneA hneW hneG
            obtain ⟨x2, hx2⟩ : ∃ x2, x2 = x0 := ⟨_, rfl⟩
            rw [← hx2] at hgo hgr hwo hneA2 hneW2 hx2n
            clear hx2 hav e1 e3 h6 hym0 hyr
            have hgo_x2 := hgo
            have hgr_x2 := hgr
            have hwo_x2 := hwo
            have hBw_x2 := hBw
            clear hgo hgr hwo hBw
            by_cases hri : i < rs.length
            · obtain ⟨rg, hrg⟩ : ∃ rg, rs[i]? = some rg := ⟨_, List.getElem?_eq_getElem hri⟩
              have i6 : (i : Int) < (nr : Int) := by rw [← hnr.out]; omega
              obtain ⟨yr, rfl, hyc⟩ := (hrsR.below rg_len (Below.then hBr hBw_x2)) i rg hrg
              have hrat : CellsAt W8 (yr.add (i * 4)) (rgcl rg) := (hrsR.below rg_len (Below.then hBr hBw_x2)).at rg_len hrg
              have hrgx : rgX rs i = goodR rg := by
                unfold rgX
                rw [if_pos hri, List.getD_eq_getElem?_getD, hrg]
                rfl
              have kg := rggood_any rg W8
              clear hyc
              go_upto_region 11 with fail
              go_wp2_with (first | (refine wpList_load_at rfl _ rfl (yr.add (i * 4)) rfl (rgcl rg) hrat hundR rfl hsr ?_) | fail)
              refine kg.mono ?_
              rintro e V1 ⟨rfl, hb1⟩
              obtain ⟨V2, hV2, hth2, hg2, hb2⟩ := put_mid (Z := wr) (stab_blk _ _ _ _ hgo_x2 hb1) 7 (rgcl (goodR rg)) (by rw [pn_len, rg_len]; decide) (by rw [pn_len]; decide) (Below.then hBw_x2 hb1) hwN
              obtain ⟨x3, hx3⟩ : ∃ x3 : PN, x3 = { x2 with n := { x2.n with r1 := (goodR rg).a, r2 := (goodR rg).b, r3 := (goodR rg).c, gates := (goodR rg).g } } := ⟨_, rfl⟩
              have hg3 : BlkL gN x3.cs V2 := by rw [hx3]; exact hg2
              have hx3n : Aside (x3.n = segX (pS j i) d1.n.label (mdX ms i) (rgX rs i) (wordsN pp.is)) := by
                show _ = _
                rw [hx3, hrgx, hx2n.out]
                rfl
              have hk2 : ∀ q, q ≠ gN → V2.heap[q]? = V1.heap[q]? := fun q hq => by rw [← hV2]; exact heap_setCells_other hq _ _ _
              have hga3 : OwnR 119 2 gcl V2 wr.heap.size x3.av x3.n.acl := by rw [hx3]; exact (hgr_x2.below hb1).keep fun q hq => hk2 q (fun z => hneA2 (by rw [← z]; exact hq))
              have hwo3 : OwnR 2 1 wcl V2 wr.heap.size x3.wv x3.n.words := by rw [hx3]; exact (hwo_x2.below hb1).keep fun q hq => hk2 q (fun z => hneW2 (by rw [← z]; exact hq))
              have hxa3 := own_at hga3 hwo3
              clear hx3
              have hBr3 : Below wr.heap.size wr V2 := hb2
              have hrow3 := hrow.below hBr3
              have hxs3 : (Tryz.prog.info? 36).map (·.size) = some x3.cs.length := by rw [pn_len]; exact hszN
              have hgr3 := hg3.range
              have hrgo := rg_one (goodR rg)
              have hsr2 : (Tryz.prog.info? 33).map (·.size) = some (rgcl (goodR rg)).length := hsr
              go_wp2_with (first | (refine wpList_store_part rfl _ _ rfl gN 7 rfl (rgcl (goodR rg)) rfl hth2 hsr2 hrgo hV2 ?_) | (refine wpList_load_row rfl _ rfl gN rfl x3.cs hgr3 hundN rfl hxs3 ?_) | fail)
              refine (kput V2 a1 c1 l1 x3 hll hrow3).mono ?_
              rintro e W9 ⟨v9, rfl, ho9, hb9⟩
              obtain ⟨a9, c9, hv9, -, -, -⟩ := ho9.slice pn_len
              subst hv9
              have hf9 : ∃ l9 : List PN, RowN W9 a9 l9 ∧ namesP l9 = putsX j d1.n.label (ps.map (·.is)) ms rs (i + 1) (namesP l) ∧ l9.length = (putP l1 x3).length ∧ l9.length ≤ l1.length + 1 := ⟨putP l1 x3, put_rowN ho9 hrow3 hxa3 hb9, by rw [put_names, hl1.out, putsX_next, hx3n.out]; unfold putX; rw [hpin.out], rfl, put_len l1 x3⟩
              obtain ⟨l9, hr9, hn9, hle9, hlen9⟩ := hf9
              rw [← hle9]
              have hBB9 := Below.then hBr3 hb9
              have hnd9 := stab_blk _ _ _ _ hnd hBB9
              clear ho9 hb9 hrow3 hxa3 hBr3 hle9
              go_wp2_with fail
              exact ⟨⟨i + 1, l9, a9, c9, by omega, by omega, by simp, rfl, hr9, hn9, by omega, hnd9, Below.then hBr hBB9⟩, by simp [Go.RowKit.intOf]; omega⟩
            · have i6 : ¬ (i : Int) < (nr : Int) := by rw [← hnr.out]; omega
              have hrgx : rgX rs i = ⟨4, 4, 4, 0⟩ := by
                unfold rgX
                rw [if_neg hri]
              obtain ⟨x3, hx3⟩ : ∃ x3, x3 = x2 := ⟨_, rfl⟩
              rw [← hx3] at hgo_x2 hgr_x2 hwo_x2 hx2n
              clear hx3
              have hx3n : Aside (x3.n = segX (pS j i) d1.n.label (mdX ms i) (rgX rs i) (wordsN pp.is)) := by
                show _ = _
                rw [hrgx, hx2n.out]
              have hxa3 := own_at hgr_x2 hwo_x2
              have hBr3 : Below wr.heap.size wr W8 := hBw_x2
              have hrow3 := hrow.below hBr3
              have hxs3 : (Tryz.prog.info? 36).map (·.size) = some x3.cs.length := by rw [pn_len]; exact hszN
              have hgr3 := hgo_x2.range
              go_wp2_with (first | (refine wpList_load_row rfl _ rfl gN rfl x3.cs hgr3 hundN rfl hxs3 ?_) | fail)
              refine (kput W8 a1 c1 l1 x3 hll hrow3).mono ?_
              rintro e W9 ⟨v9, rfl, ho9, hb9⟩
              obtain ⟨a9, c9, hv9, -, -, -⟩ := ho9.slice pn_len
              subst hv9
              have hf9 : ∃ l9 : List PN, RowN W9 a9 l9 ∧ namesP l9 = putsX j d1.n.label (ps.map (·.is)) ms rs (i + 1) (namesP l) ∧ l9.length = (putP l1 x3).length ∧ l9.length ≤ l1.length + 1 := ⟨putP l1 x3, put_rowN ho9 hrow3 hxa3 hb9, by rw [put_names, hl1.out, putsX_next, hx3n.out]; unfold putX; rw [hpin.out], rfl, put_len l1 x3⟩
              obtain ⟨l9, hr9, hn9, hle9, hlen9⟩ := hf9
              rw [← hle9]
              have hBB9 := Below.then hBr3 hb9
              have hnd9 := stab_blk _ _ _ _ hnd hBB9
              clear ho9 hb9 hrow3 hxa3 hBr3 hle9
              go_wp2_with fail
              exact ⟨⟨i + 1, l9, a9, c9, by omega, by omega, by simp, rfl, hr9, hn9, by omega, hnd9, Below.then hBr hBB9⟩, by simp [Go.RowKit.intOf]; omega⟩
        · have i4 : ¬ (i : Int) < (nm : Int) := by rw [← hnm.out]; omega
          have hmd : mdX ms i = 7 := by
            unfold mdX
            rw [if_neg (fun q => hmi q.1)]
          have hx2n : Aside (x0.n = segX (pS j i) d1.n.label (mdX ms i) ⟨4, 4, 4, 0⟩ (wordsN pp.is)) := by
            show _ = _
            rw [hmd, hx0n.out]
          have hneA2 := hneA
          have hneW2 := hneW
          clear hneA hneW hneG
          obtain ⟨x2, hx2⟩ : ∃ x2, x2 = x0 := ⟨_, rfl⟩
          rw [← hx2] at hgo hgr hwo hneA2 hneW2 hx2n
          clear hx2 hav e1 e3 h6
          have hgo_x2 := hgo
          have hgr_x2 := hgr
          have hwo_x2 := hwo
          have hBw_x2 := hBw
          clear hgo hgr hwo hBw
          by_cases hri : i < rs.length
          · obtain ⟨rg, hrg⟩ : ∃ rg, rs[i]? = some rg := ⟨_, List.getElem?_eq_getElem hri⟩
            have i6 : (i : Int) < (nr : Int) := by rw [← hnr.out]; omega
            obtain ⟨yr, rfl, hyc⟩ := (hrsR.below rg_len (Below.then hBr hBw_x2)) i rg hrg
            have hrat : CellsAt wc (yr.add (i * 4)) (rgcl rg) := (hrsR.below rg_len (Below.then hBr hBw_x2)).at rg_len hrg
            have hrgx : rgX rs i = goodR rg := by
              unfold rgX
              rw [if_pos hri, List.getD_eq_getElem?_getD, hrg]
              rfl
            have kg := rggood_any rg wc
            clear hyc
            go_upto_region 11 with fail
            go_wp2_with (first | (refine wpList_load_at rfl _ rfl (yr.add (i * 4)) rfl (rgcl rg) hrat hundR rfl hsr ?_) | fail)
            refine kg.mono ?_
            rintro e V1 ⟨rfl, hb1⟩
            obtain ⟨V2, hV2, hth2, hg2, hb2⟩ := put_mid (Z := wr) (stab_blk _ _ _ _ hgo_x2 hb1) 7 (rgcl (goodR rg)) (by rw [pn_len, rg_len]; decide) (by rw [pn_len]; decide) (Below.then hBw_x2 hb1) hwN
            obtain ⟨x3, hx3⟩ : ∃ x3 : PN, x3 = { x2 with n := { x2.n with r1 := (goodR rg).a, r2 := (goodR rg).b, r3 := (goodR rg).c, gates := (goodR rg).g } } := ⟨_, rfl⟩
            have hg3 : BlkL gN x3.cs V2 := by rw [hx3]; exact hg2
            have hx3n : Aside (x3.n = segX (pS j i) d1.n.label (mdX ms i) (rgX rs i) (wordsN pp.is)) := by
              show _ = _
              rw [hx3, hrgx, hx2n.out]
              rfl
            have hk2 : ∀ q, q ≠ gN → V2.heap[q]? = V1.heap[q]? := fun q hq => by rw [← hV2]; exact heap_setCells_other hq _ _ _
            have hga3 : OwnR 119 2 gcl V2 wr.heap.size x3.av x3.n.acl := by rw [hx3]; exact (hgr_x2.below hb1).keep fun q hq => hk2 q (fun z => hneA2 (by rw [← z]; exact hq))
            have hwo3 : OwnR 2 1 wcl V2 wr.heap.size x3.wv x3.n.words := by rw [hx3]; exact (hwo_x2.below hb1).keep fun q hq => hk2 q (fun z => hneW2 (by rw [← z]; exact hq))
            have hxa3 := own_at hga3 hwo3
            clear hx3
            have hBr3 : Below wr.heap.size wr V2 := hb2
            have hrow3 := hrow.below hBr3
            have hxs3 : (Tryz.prog.info? 36).map (·.size) = some x3.cs.length := by rw [pn_len]; exact hszN
            have hgr3 := hg3.range
            have hrgo := rg_one (goodR rg)
            have hsr2 : (Tryz.prog.info? 33).map (·.size) = some (rgcl (goodR rg)).length := hsr
            go_wp2_with (first | (refine wpList_store_part rfl _ _ rfl gN 7 rfl (rgcl (goodR rg)) rfl hth2 hsr2 hrgo hV2 ?_) | (refine wpList_load_row rfl _ rfl gN rfl x3.cs hgr3 hundN rfl hxs3 ?_) | fail)
            refine (kput V2 a1 c1 l1 x3 hll hrow3).mono ?_
            rintro e W9 ⟨v9, rfl, ho9, hb9⟩
            obtain ⟨a9, c9, hv9, -, -, -⟩ := ho9.slice pn_len
            subst hv9
            have hf9 : ∃ l9 : List PN, RowN W9 a9 l9 ∧ namesP l9 = putsX j d1.n.label (ps.map (·.is)) ms rs (i + 1) (namesP l) ∧ l9.length = (putP l1 x3).length ∧ l9.length ≤ l1.length + 1 := ⟨putP l1 x3, put_rowN ho9 hrow3 hxa3 hb9, by rw [put_names, hl1.out, putsX_next, hx3n.out]; unfold putX; rw [hpin.out], rfl, put_len l1 x3⟩
            obtain ⟨l9, hr9, hn9, hle9, hlen9⟩ := hf9
            rw [← hle9]
            have hBB9 := Below.then hBr3 hb9
            have hnd9 := stab_blk _ _ _ _ hnd hBB9
            clear ho9 hb9 hrow3 hxa3 hBr3 hle9
            go_wp2_with fail
            exact ⟨⟨i + 1, l9, a9, c9, by omega, by omega, by simp, rfl, hr9, hn9, by omega, hnd9, Below.then hBr hBB9⟩, by simp [Go.RowKit.intOf]; omega⟩
          · have i6 : ¬ (i : Int) < (nr : Int) := by rw [← hnr.out]; omega
            have hrgx : rgX rs i = ⟨4, 4, 4, 0⟩ := by
              unfold rgX
              rw [if_neg hri]
            obtain ⟨x3, hx3⟩ : ∃ x3, x3 = x2 := ⟨_, rfl⟩
            rw [← hx3] at hgo_x2 hgr_x2 hwo_x2 hx2n
            clear hx3
            have hx3n : Aside (x3.n = segX (pS j i) d1.n.label (mdX ms i) (rgX rs i) (wordsN pp.is)) := by
              show _ = _
              rw [hrgx, hx2n.out]
            have hxa3 := own_at hgr_x2 hwo_x2
            have hBr3 : Below wr.heap.size wr wc := hBw_x2
            have hrow3 := hrow.below hBr3
            have hxs3 : (Tryz.prog.info? 36).map (·.size) = some x3.cs.length := by rw [pn_len]; exact hszN
            have hgr3 := hgo_x2.range
            go_wp2_with (first | (refine wpList_load_row rfl _ rfl gN rfl x3.cs hgr3 hundN rfl hxs3 ?_) | fail)
            refine (kput wc a1 c1 l1 x3 hll hrow3).mono ?_
            rintro e W9 ⟨v9, rfl, ho9, hb9⟩
            obtain ⟨a9, c9, hv9, -, -, -⟩ := ho9.slice pn_len
            subst hv9
            have hf9 : ∃ l9 : List PN, RowN W9 a9 l9 ∧ namesP l9 = putsX j d1.n.label (ps.map (·.is)) ms rs (i + 1) (namesP l) ∧ l9.length = (putP l1 x3).length ∧ l9.length ≤ l1.length + 1 := ⟨putP l1 x3, put_rowN ho9 hrow3 hxa3 hb9, by rw [put_names, hl1.out, putsX_next, hx3n.out]; unfold putX; rw [hpin.out], rfl, put_len l1 x3⟩
            obtain ⟨l9, hr9, hn9, hle9, hlen9⟩ := hf9
            rw [← hle9]
            have hBB9 := Below.then hBr3 hb9
            have hnd9 := stab_blk _ _ _ _ hnd hBB9
            clear ho9 hb9 hrow3 hxa3 hBr3 hle9
            go_wp2_with fail
            exact ⟨⟨i + 1, l9, a9, c9, by omega, by omega, by simp, rfl, hr9, hn9, by omega, hnd9, Below.then hBr hBB9⟩, by simp [Go.RowKit.intOf]; omega⟩
end Go.Proofs.YtidihdiffiffmaaGreatDoor
namespace Go.Proofs.YtidihdiffiffmaaGreatDoor
open Go.RowKit
set_option maxRecDepth 8000
set_option linter.unusedSimpArgs false
set_option linter.unusedVariables false
theorem strQ_load (w : World) (y : Addr) (v : Value) (h : w.cell? y = some v) : (Instr.loadAt 9 (.pointer (some y))).run Tryz.prog w = .ok v w := by
  have h1 := Tryz.underlying9
  go_simp
section
variable {ops : Array Oper} {o : Oper} {a : Act} {w w' : World} {Q : Exit → Act → World → Prop} {T : TypeId}
theorem step_mapU {K : Act → World → Prop} {E : Prop} (hg : o.guard = none) (x y z : Operand) (ho : o.op = .mapUpdate T x y z) (m : Value) (hx : a.eval x = m) (k : Value) (hy : a.eval y = k) (v : Value) (hz : a.eval z = v) (hs : (Instr.mapUpdate T m k v).run Tryz.prog w = .ok () w') (hK : K (a.put o.dst undef) w') :
    if Region.wanted o (yielded ops a.tmps) = true then Oper.wp Tryz.prog o a w K Q else E := by
  have hw : Region.wanted o (yielded ops a.tmps) = true := by simp [Region.wanted, hg]
  rw [if_pos hw]
  unfold Oper.wp
  simp [execOp, ho, hx, hy, hz, hs, Result.andThen]
  exact hK
end
structure KS (b bx B n i : Nat) (u : ByteArray) (t : Lab) (p : ByteArray) (d : PN) (l : List PN) (W : World) : Prop where
  row : RowN W (some ⟨B, 0, none⟩) l
  sb : BlkL b (sbL u t) W
  px : W.cell? ⟨bx, 0, none⟩ = some (.string p)
  wd : W.cell? ⟨B, i * 16 + 11, none⟩ = some (.slice d.wa d.n.words.length d.cw)
  rg : W.rangeAt B (i * 16 + 7) [.int .i64 d.n.r1, .int .i64 d.n.r2, .int .i64 d.n.r3, .int .i64 d.n.gates]
theorem KS.then {b bx B n i : Nat} {u : ByteArray} {t : Lab} {p : ByteArray} {d : PN} {l : List PN} {W W' : World} (h : KS b bx B n i u t p d l W) (k : Below W.heap.size W W') : KS b bx B n i u t p d l W' :=
  ⟨h.row.below k, stab_blk _ _ _ _ h.sb k, (k.cell (World.block_lt_of_cell? _ _ h.px)).trans h.px, (k.cell (World.block_lt_of_cell? _ _ h.wd)).trans h.wd, fun j v hv => (k.cell (World.block_lt_of_cell? _ _ (h.rg j v hv))).trans (h.rg j v hv)⟩
theorem MapI.kept {W W' : World} {b : Nat} {val : Int → Value} {live : Int → Bool} (h : MapI W b val live) (hk : ∀ j, j ≠ b → W'.heap[j]? = W.heap[j]?) (y : Addr) (v : Value) (hc : W.cell? y = some v) : W'.cell? y = some v := by
  by_cases hy : y.block = b
  · obtain ⟨es, clock, hb, -⟩ := h
    rw [← hy] at hb
    simp [World.cell?, hb] at hc
  · exact (World.cell?_of_block (hk y.block hy)).trans hc
theorem RowAt.cells {α : Type} {sz : Nat} {f : α → List Value} {W W' : World} {a : Option Addr} {l : List α} (hf : ∀ x, (f x).length = sz) (h : RowAt sz f W a l) (hc : ∀ y v, W.cell? y = some v → W'.cell? y = some v) : RowAt sz f W' a l := fun j x hx => by
  obtain ⟨y, hy, h1⟩ := h j x hx
  refine ⟨y, hy, fun i hi => ?_⟩
  have h2 := h1 i hi
  obtain ⟨u, hu⟩ : ∃ u, (f x)[i]? = some u := ⟨_, List.getElem?_eq_getElem (by rw [hf]; exact hi)⟩
  rw [hu] at h2 ⊢
  exact hc _ _ h2
theorem RowN.cells {W W' : World} {a : Option Addr} {l : List PN} (h : RowN W a l) (hc : ∀ y v, W.cell? y = some v → W'.cell? y = some v) : RowN W' a l :=
  ⟨h.r.cells pn_len hc, fun x hx => ⟨row_grs ((grs_row (h.p x hx).g).cells (fun _ => rfl) hc), row_wrds ((wrds_row (h.p x hx).w).cells (fun _ => rfl) hc)⟩⟩
theorem KS.mapped {b bx B n i m : Nat} {u : ByteArray} {t : Lab} {p : ByteArray} {d : PN} {l : List PN} {W W' : World} {val : Int → Value} {live : Int → Bool} (h : KS b bx B n i u t p d l W) (hm : MapI W m val live) (hz : W.heap.size ≤ W'.heap.size) (hk : ∀ j, j ≠ m → W'.heap[j]? = W.heap[j]?) (hbm : b ≠ m) : KS b bx B n i u t p d l W' :=
  ⟨h.row.cells (hm.kept hk), ⟨h.sb.1.same (hk b hbm), Nat.lt_of_lt_of_le h.sb.2 hz⟩, hm.kept hk _ _ h.px, hm.kept hk _ _ h.wd, fun j v hv => hm.kept hk _ _ (h.rg j v hv)⟩
theorem row_parts {W : World} {B i : Nat} {l : List PN} {d : PN} (h : RowN W (some ⟨B, 0, none⟩) l) (hd : l[i]? = some d) : W.cell? ⟨B, i * 16 + 1, none⟩ = some (.bool d.n.dir) ∧ W.cell? ⟨B, i * 16 + 11, none⟩ = some (.slice d.wa d.n.words.length d.cw) ∧ W.rangeAt B (i * 16 + 7) [.int .i64 d.n.r1, .int .i64 d.n.r2, .int .i64 d.n.r3, .int .i64 d.n.gates] := by
  obtain ⟨y, hy, hc⟩ := h.r i d hd
  injection hy with hy
  subst hy
  have hc' : ∀ j, j < 16 → W.cell? ⟨B, i * 16 + j, none⟩ = d.cs[j]? := fun j hj => by
    have := hc j hj
    rwa [add_at] at this
  refine ⟨hc' 1 (by omega), hc' 11 (by omega), fun j v hv => ?_⟩
  have hj : j < 4 := (List.getElem?_eq_some_iff.1 hv).1
  have h1 := hc' (7 + j) (by omega)
  rw [show i * 16 + (7 + j) = i * 16 + 7 + j from by omega] at h1
  rw [h1]
  match j, hj with
  | 0, _ => exact hv
  | 1, _ => exact hv
  | 2, _ => exact hv
  | 3, _ => exact hv
theorem kn_at {bs : List ByteArray} {l : List PN} {u : ByteArray} {t : Lab} {k : Nat} {p : ByteArray} (h : bs[k]? = some p) : knP (bs.map (segQ l u t)) (k : Int) = segQ l u t p := by
  unfold knP
  rw [if_neg (by omega), Int.toNat_natCast, List.getD_eq_getElem?_getD, List.getElem?_map, h]
  rfl
theorem live_next {gs : List Sg} {k : Nat} {g : Sg} (hk : kn gs (k : Int) = g ∧ g.is = true) (j : Int) : (decide (j < (((k + 1 : Nat) : Int))) && (kn gs j).is) = (decide (j = (k : Int)) || (decide (j < (k : Int)) && (kn gs j).is)) := by
  by_cases h1 : j = (k : Int)
  · subst h1
    rw [hk.1, hk.2, decide_eq_true (show (k : Int) < ((k + 1 : Nat) : Int) by omega), decide_eq_true rfl]
    rfl
  · by_cases h2 : j < (k : Int)
    · rw [decide_eq_true (show j < ((k + 1 : Nat) : Int) by omega), decide_eq_true h2, decide_eq_false h1]
      rfl
    · rw [decide_eq_false (show ¬ j < ((k + 1 : Nat) : Int) by omega), decide_eq_false h2, decide_eq_false h1]
      rfl
theorem live_skip {gs : List Sg} {k : Nat} (hk : (kn gs (k : Int)).is = false) (j : Int) : (decide (j < (((k + 1 : Nat) : Int))) && (kn gs j).is) = (decide (j < (k : Int)) && (kn gs j).is) := by
  by_cases h1 : j = (k : Int)
  · subst h1
    rw [hk, Bool.and_false, Bool.and_false]
  · by_cases h2 : j < (k : Int)
    · rw [decide_eq_true (show j < ((k + 1 : Nat) : Int) by omega), decide_eq_true h2]
    · rw [decide_eq_false (show ¬ j < ((k + 1 : Nat) : Int) by omega), decide_eq_false h2]
theorem live_none (gs : List Sg) (j : Int) : (decide (j < (((0 : Nat) : Int))) && (kn gs j).is) = false := by
  by_cases hj : j < 0
  · have : (kn gs j).is = false := by unfold kn; rw [if_pos hj]; rfl
    rw [this, Bool.and_false]
  · rw [decide_eq_false (show ¬ j < ((0 : Nat) : Int) from hj)]
    rfl
theorem live_all {gs : List Sg} {k : Nat} (h : gs.length = k) (j : Int) : (kn gs j).is = (decide (j < (k : Int)) && (kn gs j).is) := by
  by_cases hj : j < (k : Int)
  · rw [decide_eq_true hj]
    rfl
  · have : (kn gs j).is = false := by
      unfold kn
      rw [if_neg (by omega), List.getD_eq_getElem?_getD, List.getElem?_eq_none (by omega)]
      rfl
    rw [this, Bool.and_false]
set_option maxRecDepth 8000 in
set_option maxHeartbeats 8000000 in
theorem pknown_any (B cap : Nat) (l : List PN) (u : ByteArray) (t : Lab) (ba : Option Addr) (bc : Nat) (bs : List ByteArray) (hF : FineL l) (hGt : GL t) (hbs : bs.length ≤ 4) (hps : ∀ p ∈ bs, p.size ≤ 1000) (w : World) (h : RowN w (some ⟨B, 0, none⟩) l) (hbl0 : B < w.heap.size) (hRB : RowAt 1 scl w ba bs) (hV : MaxV w) :
    Calls Tryz.prog 36 #[.slice (some ⟨B, 0, none⟩) l.length cap, .agg (sbL u t).toArray, .slice ba bs.length bc] w fun e w' => ∃ mb, e = .returned (.map (some mb)) ∧ w.heap.size ≤ mb ∧ MapI w' mb (segV (bs.map (segQ l u t))) (fun k => (kn ((bs.map (segQ l u t)).map (·.g)) k).is) ∧ Below w.heap.size w w' := by
  have hundS := Tryz.underlying52
  have hundN := Tryz.underlying36
  have hundR := Tryz.underlying33
  have hszN : (Tryz.prog.info? 36).map (·.size) = some 16 := by kernel_rfl
  have hss : (Tryz.prog.info? 52).map (·.size) = some (sbL u t).length := by kernel_rfl
  have hsr : (Tryz.prog.info? 33).map (·.size) = some 4 := by kernel_rfl
  have kidx := fun (W : World) bx p hb hr => pidx_any W bx p hb (some ⟨B, 0, none⟩) l cap (by have := hF.len; omega) hr
  have ksee := fun (W : World) p hp hr hv => msee_any (some ⟨B, 0, none⟩) cap l u t p hF hGt hp W hr hv
  have kmd := fun (W : World) p hp hr hv => pmods_any (some ⟨B, 0, none⟩) cap l u t p hF hGt hp W hr hv
  have hlen := hF.len
  obtain ⟨n, hn⟩ : ∃ n, l.length = n := ⟨_, rfl⟩
  obtain ⟨nb, hnb⟩ : ∃ nb, bs.length = nb := ⟨_, rfl⟩
  rw [hn] at kidx ksee kmd hlen ⊢
  rw [hnb] at hbs ⊢
  replace hn : Aside (l.length = n) := hn
  replace hnb : Aside (bs.length = nb) := hnb
  have hmm := @run_makeMap Tryz.prog
  have hb0 := blkl_alloc w (sbL u t).toArray 52
  have hB0 := alloc_below w (.cells (sbL u t).toArray 52)
  have hB1 := alloc_below (w.alloc (.cells (sbL u t).toArray 52)) (.map #[] 0)
  have hb1 := stab_blk _ _ _ _ hb0 hB1
  have hM1 := mapI_made (w.alloc (.cells (sbL u t).toArray 52)) (segV (bs.map (segQ l u t)))
  rw [World.size_alloc] at hM1
  have hB01 := Below.then hB0 hB1
  replace hb1 : BlkL w.heap.size (sbL u t) ((w.alloc (.cells (sbL u t).toArray 52)).alloc (.map #[] 0)) := hb1
  clear hb0 hB0 hB1
  go_enter Tryz.func36, Tryz.ntmps36
  go_upto_region 2 with fail
  generalize (w.alloc (.cells (sbL u t).toArray 52)).alloc (.map #[] 0) = W1 at *
  have hM2 := hM1.turn (val' := segV (bs.map (segQ l u t))) (live' := fun j => decide (j < (((0 : Nat) : Int))) && (kn ((bs.map (segQ l u t)).map (·.g)) j).is) (fun _ _ => rfl) (live_none _)
  clear hM1 hmm
  go_wp2_with fail
  go_loopw [16] (fun t16 wr => ∃ k : Nat, k ≤ nb ∧ t16 = .int .i64 (k : Int) ∧ BlkL w.heap.size (sbL u t) wr ∧ MapI wr (w.heap.size + 1) (segV (bs.map (segQ l u t))) (fun j => decide (j < (k : Int)) && (kn ((bs.map (segQ l u t)).map (·.g)) j).is) ∧ Below w.heap.size w wr) (fun t16 _ => nb - (Go.RowKit.intOf t16).toNat)
  case atStart => exact ⟨0, by omega, rfl, hb1, hM2, hB01⟩
  case round =>
    clear hb1 hM2 hB01
    obtain ⟨k, hk, rfl, hb, hM, hB⟩ := hrel
    by_cases hlt : k < nb
    · obtain ⟨p, hp⟩ : ∃ p, bs[k]? = some p := ⟨_, List.getElem?_eq_getElem (by rw [hnb.out]; exact hlt)⟩
      have hpz := hps p (List.mem_of_getElem? hp)
      have hkp := kn_at (l := l) (u := u) (t := t) hp
      have hkg := knP_g (bs.map (segQ l u t)) (k : Int)
      rw [hkp] at hkg
      obtain ⟨y, rfl, hyc⟩ := (hRB.below scl_ok.len hB) k p hp
      have hy0 : wr.cell? (y.add k) = some (.string p) := by
        have := hyc 0 (by decide)
        rw [Nat.mul_one, Nat.add_zero] at this
        exact this
      have hB2 := alloc_below wr (.cells #[.string p] 9)
      have hbx : (wr.alloc (.cells #[.string p] 9)).cell? ⟨wr.heap.size, 0, none⟩ = some (.string p) := (blk_alloc wr #[.string p] 9 0 _ rfl).1
      have hw1 : w.heap.size + 1 < wr.heap.size := hM.lt
      clear hyc hkp
      go_upto_region 5 with fail
      clear hy0
      generalize wr.alloc (.cells #[.string p] 9) = V1 at *
      have hb2 := stab_blk _ _ _ _ hb hB2
      have hM2 := hM.same (hB2.block _ hM.lt)
      have hBB2 := Below.then hB hB2
      clear hb hM hB hB2
      go_wp2_with fail
      refine (kidx V1 wr.heap.size p hbx (h.below hBB2)).mono ?_
      rintro e V2 ⟨ix, rfl, hix, hB3⟩
      have hb3 := stab_blk _ _ _ _ hb2 hB3
      have hM3 := hM2.same (hB3.block _ hM2.lt)
      have hBB3 := Below.then hBB2 hB3
      have hbx3 := (hB3.cell (p := ⟨wr.heap.size, 0, none⟩) (World.block_lt_of_cell? _ _ hbx)).trans hbx
      clear hb2 hM2 hBB2 hB3 hbx kidx
      have hrs := hb3.range
      go_wp2_with (first | (refine wpList_load_row rfl _ rfl w.heap.size rfl (sbL u t) hrs hundS rfl hss ?_) | fail)
      refine (ksee V2 p hpz (h.below hBB3) (hV.below hBB3)).mono ?_
      rintro e V3 ⟨f, rfl, -, -, hB4, -⟩
      obtain ⟨V4, hW4, hth4, -, hB5⟩ := put_new V3 #[.string ⟨#[]⟩, .bool false, .int .i64 0, .int .i64 0, .int .i64 0, .int .i64 0, .slice none 0 0, .int .i64 0, .int .i64 0, .int .i64 0, .int .i64 0, .slice none 0 0, .int .i64 0, .int .i64 0, .int .i64 0, .int .i64 0] 36 f.cs (by rw [pn_len]; rfl) (by rw [pn_len]; decide)
      have hB45 := Below.then hB4 hB5
      have hb4 := stab_blk _ _ _ _ hb3 hB45
      have hM4 := hM3.same (hB45.block _ hM3.lt)
      have hBB4 := Below.then hBB3 hB45
      have hbx4 := (hB45.cell (p := ⟨wr.heap.size, 0, none⟩) (World.block_lt_of_cell? _ _ hbx3)).trans hbx3
      have hszT : (Tryz.prog.info? 36).map (·.size) = some f.cs.length := by rw [pn_len]; exact hszN
      have hone : ∀ v ∈ f.cs, v.oneCell' = true := pn_one f
      obtain ⟨E, hE⟩ : ∃ E, seeE (namesP l) t p = E := ⟨_, rfl⟩
      rw [hE]
      clear hrs hb3 hM3 hBB3 hbx3 hB4 hB5 hB45 ksee
      go_upto_region 7 with (first | (refine wpList_store_row rfl _ _ rfl V3.heap.size rfl f.cs rfl hth4 hszT hone hW4 ?_) | fail)
      clear hth4 hW4 hszT hone
      by_cases hE0 : E = 0
      rotate_left
      · have hno : (kn ((bs.map (segQ l u t)).map (·.g)) (k : Int)).is = false := by
          rw [← hkg, segQ_g]
          unfold segP
          rw [if_pos (.inl (by rw [hE]; exact hE0))]
          rfl
        have hM5 := hM4.turn (val' := segV (bs.map (segQ l u t))) (live' := fun j => decide (j < (((k + 1 : Nat) : Int))) && (kn ((bs.map (segQ l u t)).map (·.g)) j).is) (fun _ _ => rfl) (fun j => live_skip hno j)
        have hq : (E != 0) = true := by simpa using hE0
        have hq2 : (E == 0) = false := by simpa using hE0
        clear hM4 hno hkg
        go_wp2_with fail
        exact ⟨⟨k + 1, by omega, by simp, hb4, hM5, hBB4⟩, by simp [Go.RowKit.intOf]; omega⟩
      subst hE0
      obtain ⟨hgm, hfd⟩ : gotP l p ∈ l ∧ findP l p = some (gotP l p) := by
        obtain ⟨_, _, x, hx⟩ := see_zero.1 hE
        rw [find_names] at hx
        obtain ⟨d, hd, _⟩ := Option.map_eq_some_iff.1 hx
        unfold gotP
        rw [hd]
        exact ⟨List.mem_of_find?_eq_some hd, rfl⟩
      have hgn := gotP_n l p
      have hsq : (gotN (namesP l) p).dir = false → segQ l u t p = ⟨segP (namesP l) u t p, (gotP l p).wa, (gotP l p).cw⟩ ∧ segP (namesP l) u t p = ⟨true, (gotP l p).n.words, modsP (namesP l) u t p, (gotP l p).n.rg⟩ := fun q => by
        unfold segQ segP
        rw [if_neg (by rw [hE, q]; simp), if_neg (by rw [hE, q]; simp), hgn]
        exact ⟨rfl, rfl⟩
      have hsz' : (gotN (namesP l) p).dir = true → (segP (namesP l) u t p).is = false := fun q => by
        unfold segP
        rw [if_pos (.inr q)]
        rfl
      rw [hfd] at hix
      obtain ⟨d, hd⟩ : ∃ d, gotP l p = d := ⟨_, rfl⟩
      rw [hd] at hix hgm hsq
      rw [← hgn, hd] at hsq hsz'
      obtain ⟨i, rfl, hi⟩ : ∃ i : Nat, ix = (i : Int) ∧ l[i]? = some d := hix
      have hil : i < n := by rw [← hn.out]; exact (List.getElem?_eq_some_iff.1 hi).1
      have hrow4 := h.below hBB4
      obtain ⟨hdir, hwd, hrg⟩ := row_parts hrow4 hi
      have hi0 : ¬ (i : Int) < 0 := by omega
      have hi1 : (i : Int) < (n : Int) := by omega
      clear hgn hfd hd hgm
      cases hdd : d.n.dir
      rotate_left
      · have hno : (kn ((bs.map (segQ l u t)).map (·.g)) (k : Int)).is = false := by
          rw [← hkg, segQ_g]
          exact hsz' hdd
        have hM5 := hM4.turn (val' := segV (bs.map (segQ l u t))) (live' := fun j => decide (j < (((k + 1 : Nat) : Int))) && (kn ((bs.map (segQ l u t)).map (·.g)) j).is) (fun _ _ => rfl) (fun j => live_skip hno j)
        rw [hdd] at hdir
        clear hM4 hno hkg hsq hsz' hrow4 hwd hrg hi
        go_wp2_with fail
        exact ⟨⟨k + 1, by omega, by simp, hb4, hM5, hBB4⟩, by simp [Go.RowKit.intOf]; omega⟩
      · obtain ⟨hs1, hs2⟩ := hsq hdd
        rw [hdd] at hdir
        have hkn : kn ((bs.map (segQ l u t)).map (·.g)) (k : Int) = segP (namesP l) u t p ∧ (segP (namesP l) u t p).is = true := by
          rw [← hkg, segQ_g]
          exact ⟨rfl, by rw [hs2]⟩
        have hsegV : .agg #[.slice d.wa d.n.words.length d.cw, .int .i64 (modsP (namesP l) u t p), .int .i64 d.n.r1, .int .i64 d.n.r2, .int .i64 d.n.r3, .int .i64 d.n.gates] = segV (bs.map (segQ l u t)) (k : Int) := by
          unfold segV
          rw [kn_at hp, hs1, hs2]
          rfl
        replace hsegV : Aside _ := hsegV
        obtain ⟨W5, hW5⟩ : ∃ W5, V4 = W5 := ⟨_, rfl⟩
        rw [hW5] at hb4 hM4 hBB4 hbx4 hrow4 hdir hwd hrg ⊢
        clear hW5
        have hS0 : KS w.heap.size wr.heap.size B n i u t p d l W5.drew := (KS.mk hrow4 hb4 hbx4 hwd hrg : KS w.heap.size wr.heap.size B n i u t p d l W5).then (Below.refl _ _).drew
        have hMp0 : MapI W5.drew (w.heap.size + 1) (segV (bs.map (segQ l u t))) (fun j => decide (j < (k : Int)) && (kn ((bs.map (segQ l u t)).map (·.g)) j).is) := hM4.same ((Below.refl W5.heap.size W5).drew.block _ hM4.lt)
        have hbB0 : Below w.heap.size w W5.drew := hBB4.drew
        have hV0 : MaxV W5.drew := hV.below hbB0
        have kmod := fun (W : World) r v => kmd W p hpz r v
        go_upto_region 8 with fail
        clear hsq hsz' hs1 hs2 hdir hwd hrg hrow4 hb4 hM4 hBB4 hbx4 hkg hp hi kmd
        refine wp_region_held_drew (S := (fun W => KS w.heap.size wr.heap.size B n i u t p d l W)) (by kernel_rfl) (by exact hS0) ?_
        intro hHeld
        generalize W5.drew = w0 at *
        refine tkA 0 ?_
        refine tkA 1 ?_
        refine tkA 2 ?_
        refine tkA 3 ?_
        refine tkA 4 ?_
        refine tkA 5 ?_
        refine tkB 6 (y := yields_cellI (by rfl) _ rfl ⟨B, i * 16 + 11, none⟩ rfl (.slice d.wa d.n.words.length d.cw) (fun _ s => s.wd) wrdsP_load) (h := ?_)
        refine tkA 7 ?_
        refine tkB 8 (y := yieldsIf_load_mid (by rfl) 52 _ rfl w.heap.size 0 rfl (sbL u t) _ (fun W s => s.sb.range) hundS rfl hss) (h := ?_)
        refine tkB 9 (y := yields_cellI (by rfl) _ rfl ⟨wr.heap.size, 0, none⟩ rfl (.string p) (fun _ s => s.px) strQ_load) (h := ?_)
        refine tkA 11 ?_
        refine tkA 12 ?_
        refine tkA 13 ?_
        refine tkA 14 ?_
        refine tkB 15 (y := yieldsIf_load_mid (by rfl) 33 _ rfl B (i * 16 + 7) rfl [.int .i64 d.n.r1, .int .i64 d.n.r2, .int .i64 d.n.r3, .int .i64 d.n.gates] _ (fun W s => s.rg) hundR rfl hsr) (h := ?_)
        refine tkR (rs := [10]) ?_
        refine tkC (fun K hK => ?_) AllReadyH.nil
        go_simp
        go_at_call 60
        refine (kmod w0 hS0.row hV0 ).mono ?_
        rintro e w1 ⟨rfl, hb1⟩
        have hS1 := hS0.then hb1
        refine hK.out _ _ (hS1) ?_
        clear hHeld hK
        intro hHeld
        have hMp1 := hMp0.same (hb1.block _ hMp0.lt)
        have hbB1 := Below.then hbB0 hb1
        have hbs1 := hS1.sb
        clear hS0 hMp0 hbB0 hb1
        (try simp only [Act.put, zsA, zsB, zsC])
        refine tkA 16 ?_
        refine tkR (rs := [17]) ?_
        refine tkC (fun K hK => ?_) AllReadyH.nil
        obtain ⟨w2, hup, hM2, ho2, ht2, hu2, hz2, hk2⟩ := updI Tryz.underlying108 hMp1 (k : Int) (.agg #[.slice d.wa d.n.words.length d.cw, .int .i64 (modsP (namesP l) u t p), .int .i64 d.n.r1, .int .i64 d.n.r2, .int .i64 d.n.r3, .int .i64 d.n.gates]) (by simp)
        refine step_mapU rfl _ _ _ rfl (.map (some (w.heap.size + 1))) rfl (.int .i64 (k : Int)) rfl (.agg #[.slice d.wa d.n.words.length d.cw, .int .i64 (modsP (namesP l) u t p), .int .i64 d.n.r1, .int .i64 d.n.r2, .int .i64 d.n.r3, .int .i64 d.n.gates]) rfl hup ?_
        (try simp only [Act.put, zsA, zsB, zsC])
        refine hK.out _ _ (hS1.mapped hMp1 (by rw [hz2]; exact Nat.le_refl _) hk2 (by omega)) ?_
        clear hHeld hK
        intro hHeld
        have hb3 : BlkL w.heap.size (sbL u t) w2 := ⟨hbs1.1.same (hk2 _ (by omega)), by rw [hz2]; exact hbs1.2⟩
        have hB3 : Below w.heap.size w w2 := hbB1.trans ⟨ho2, ht2, hu2, by rw [hz2]; exact Nat.le_refl _, fun j hj => hk2 j (by omega)⟩
        have hM3 := hM2.turn (val' := segV (bs.map (segQ l u t))) (live' := fun j => decide (j < (((k + 1 : Nat) : Int))) && (kn ((bs.map (segQ l u t)).map (·.g)) j).is) (fun j hj => by
    by_cases hjk : j = (k : Int)
    · rw [if_pos hjk, hjk]; exact hsegV.out.symm
    · rw [if_neg hjk]) (fun j => live_next hkn j)
        clear hM2 hk2 hup hS1 hMp1 hbs1 hbB1
        (try simp only [Act.put, zsA, zsB, zsC])
        refine wpAnyH_done (by kernel_rfl) ?_ _
        clear hHeld
        go_wp2_with fail
        exact ⟨⟨k + 1, by omega, by simp, hb3, hM3, hB3⟩, by simp [Go.RowKit.intOf]; omega⟩
    · obtain rfl : k = nb := by omega
      go_wp2_with fail
      go_ret
      exact ⟨w.heap.size + 1, rfl, Nat.le_succ _, hM.turn (fun _ _ => rfl) (live_all (by simp [hnb.out])), hB⟩
end Go.Proofs.YtidihdiffiffmaaGreatDoor
namespace Go.Proofs.YtidihdiffiffmaaGreatDoor
open Go.RowKit
set_option maxRecDepth 8000
set_option linter.unusedSimpArgs false
set_option linter.unusedVariables false
def setP (p : ByteArray) (o : Nat) (v : Int) (x : PN) : PN := { x with n := setN p o v x.n }
theorem setP_names (l : List PN) (p : ByteArray) (o : Nat) (v : Int) : namesP (l.map (setP p o v)) = setW (namesP l) p o v := by
  unfold namesP setW
  rw [List.map_map, List.map_map]
  rfl
theorem setP_wv (p : ByteArray) (o : Nat) (v : Int) (x : PN) : (setP p o v x).wv = x.wv := by
  unfold PN.wv setP
  simp only [setN_len]
theorem setP_av (p : ByteArray) (o : Nat) (v : Int) (x : PN) : (setP p o v x).av = x.av := by
  unfold PN.av setP
  simp only [setN_acl]
theorem setP_cs (p : ByteArray) (o : Nat) (v : Int) (x : PN) : (setP p o v x).cs = x.cs := by
  unfold setP
  rw [setN_same]
  unfold PN.cs nclT
  simp only [setN_len]
theorem findP_set (l : List PN) (p : ByteArray) (o : Nat) (v : Int) (q : ByteArray) : findP (l.map (setP p o v)) q = (findP l q).map (setP p o v) := by
  unfold findP
  rw [List.find?_map]
  congr 1
  congr 1
  funext x
  show eqs (setN p o v x.n).path q = eqs x.n.path q
  rw [setN_path]
theorem segP_set (L : List Nod) (p : ByteArray) (o : Nat) (v : Int) (u : ByteArray) (t : Lab) (q : ByteArray) (hz : eqs (⟨#[]⟩ : ByteArray) p = false) : (segP (setW L p o v) u t q).is = (segP L u t q).is ∧ (segP (setW L p o v) u t q).md = (segP L u t q).md ∧ (segP (setW L p o v) u t q).rg = (segP L u t q).rg ∧ (segP (setW L p o v) u t q).ws.length = (segP L u t q).ws.length := by
  unfold segP
  rw [see_set, got_set L p o v q hz, setN_dir, setN_rg, mods_set]
  by_cases h : seeE L t q ≠ 0 ∨ (gotN L q).dir = true
  · rw [if_pos h, if_pos h]
    exact ⟨rfl, rfl, rfl, rfl⟩
  · rw [if_neg h, if_neg h]
    exact ⟨rfl, rfl, rfl, setN_len p o v _⟩
theorem segQ_v (l : List PN) (u : ByteArray) (t : Lab) (q : ByteArray) (h : (segP (namesP l) u t q).is = true) : segQ l u t q = ⟨segP (namesP l) u t q, (gotP l q).wa, (gotP l q).cw⟩ ∧ (segQ l u t q).v = (gotP l q).wv ∧ (segQ l u t q).g.ws = (gotP l q).n.words := by
  obtain ⟨h1, h2, h3⟩ := seg_is h
  have e : segQ l u t q = ⟨segP (namesP l) u t q, (gotP l q).wa, (gotP l q).cw⟩ := by
    unfold segQ
    rw [if_neg (by rw [h1, h2]; simp)]
  refine ⟨e, ?_, ?_⟩
  · rw [e]
    unfold PG.v PN.wv
    simp only [h3, gotP_n]
  · rw [e]
    simp only [h3, gotP_n]
theorem gotP_find {l : List PN} {t : Lab} {q : ByteArray} (h : seeE (namesP l) t q = 0) : findP l q = some (gotP l q) ∧ gotP l q ∈ l ∧ eqs (gotP l q).n.path q = true := by
  obtain ⟨_, _, x, hx⟩ := see_zero.1 h
  rw [find_names] at hx
  obtain ⟨d, hd, _⟩ := Option.map_eq_some_iff.1 hx
  have e : gotP l q = d := by
    unfold gotP
    rw [hd]
    rfl
  rw [e]
  exact ⟨hd, List.mem_of_find?_eq_some hd, List.find?_some (p := fun x : PN => eqs x.n.path q) hd⟩
theorem segV_set (l : List PN) (p : ByteArray) (o : Nat) (v : Int) (u : ByteArray) (t : Lab) (q : ByteArray) (hz : eqs (⟨#[]⟩ : ByteArray) p = false) : (segQ (l.map (setP p o v)) u t q).g.is = (segQ l u t q).g.is ∧ sg6 (segQ (l.map (setP p o v)) u t q).g (segQ (l.map (setP p o v)) u t q).v = sg6 (segQ l u t q).g (segQ l u t q).v := by
  have h1 := segP_set (namesP l) p o v u t q hz
  rw [← setP_names] at h1
  rw [segQ_g, segQ_g]
  refine ⟨h1.1, ?_⟩
  cases hi : (segP (namesP l) u t q).is
  · have e1 : segQ l u t q = zeroPG := by
      unfold segQ
      unfold segP at hi
      by_cases h : seeE (namesP l) t q ≠ 0 ∨ (gotN (namesP l) q).dir = true
      · rw [if_pos h]
      · rw [if_neg h] at hi; cases hi
    have e2 : segQ (l.map (setP p o v)) u t q = zeroPG := by
      have hi' := h1.1
      rw [hi] at hi'
      unfold segQ
      unfold segP at hi'
      by_cases h : seeE (namesP (l.map (setP p o v))) t q ≠ 0 ∨ (gotN (namesP (l.map (setP p o v))) q).dir = true
      · rw [if_pos h]
      · rw [if_neg h] at hi'; cases hi'
    have g1 := segQ_g l u t q
    have g2 := segQ_g (l.map (setP p o v)) u t q
    rw [e1] at g1
    rw [e2] at g2
    rw [e1, e2, ← g1, ← g2]
  · have hi' := h1.1
    rw [hi] at hi'
    have hsee := (seg_is hi).1
    obtain ⟨-, v1, -⟩ := segQ_v l u t q hi
    obtain ⟨-, v2, -⟩ := segQ_v (l.map (setP p o v)) u t q hi'
    rw [v1, v2]
    have hg : gotP (l.map (setP p o v)) q = setP p o v (gotP l q) := by
      unfold gotP
      rw [findP_set, (gotP_find hsee).1]
      rfl
    rw [hg, setP_wv]
    unfold sg6
    rw [h1.2.1, h1.2.2.1]
theorem knP_map (f : ByteArray → PG) (bs : List ByteArray) (k : Int) : knP (bs.map f) k = if k < 0 then zeroPG else ((bs[k.toNat]?).map f).getD zeroPG := by
  unfold knP
  by_cases h : k < 0
  · rw [if_pos h, if_pos h]
  · rw [if_neg h, if_neg h, List.getD_eq_getElem?_getD, List.getElem?_map]
theorem two_of {α : Type} {R : α → α → Prop} : ∀ {l : List α}, l.Pairwise R → ∀ {x y : α}, x ∈ l → y ∈ l → x = y ∨ R x y ∨ R y x
  | [], _, _, _, h, _ => by cases h
  | a :: r, hp, x, y, hx, hy => by
    obtain ⟨h1, h2⟩ := List.pairwise_cons.1 hp
    rcases List.mem_cons.1 hx with rfl | hx' <;> rcases List.mem_cons.1 hy with rfl | hy'
    · exact .inl rfl
    · exact .inr (.inl (h1 _ hy'))
    · exact .inr (.inr (h1 _ hx'))
    · exact two_of h2 hx' hy'
structure PMq (W : World) (B L0 bm n : Nat) (u : ByteArray) (t : Lab) (bs : List ByteArray) (l : List PN) : Prop where
  ln : l.length = n
  row : OwnN W B (.slice (some ⟨B, 0, none⟩) n n) l
  own : OwnX W (B + 1) l
  lo : ∀ y ∈ l, ∀ g, (y.av.ownBlock = some g ∨ y.wv.ownBlock = some g) → g < L0
  map : MapI W bm (segV (bs.map (segQ l u t))) (fun k => (kn ((bs.map (segQ l u t)).map (·.g)) k).is)
  bm : L0 ≤ bm
  B0 : B < L0
section
variable {W W' : World} {B L0 bm n : Nat} {u : ByteArray} {t : Lab} {bs : List ByteArray} {l : List PN}
theorem PMq.keep (h : PMq W B L0 bm n u t bs l) (hb : ∀ j, (B ≤ j ∧ j < L0) ∨ j = bm → W'.heap[j]? = W.heap[j]?) : PMq W' B L0 bm n u t bs l := by
  refine ⟨h.ln, h.row.keep fun k hk => ?_, ⟨fun x hx => (h.own.acl x hx).keep fun k hk => hb k (.inl ⟨?_, h.lo x hx k (.inl hk)⟩), fun x hx => (h.own.wds x hx).keep fun k hk => hb k (.inl ⟨?_, h.lo x hx k (.inr hk)⟩), h.own.dis, h.own.apt⟩, h.lo, h.map.same (hb bm (.inr rfl)), h.bm, h.B0⟩
  · have e : B = k := by simpa [Value.ownBlock] using hk
    exact hb k (.inl ⟨by omega, by have := h.B0; omega⟩)
  · have := ((h.own.acl x hx).lt hk).1
    omega
  · have := ((h.own.wds x hx).lt hk).1
    omega
theorem PMq.below (h : PMq W B L0 bm n u t bs l) (hb : Below W.heap.size W W') : PMq W' B L0 bm n u t bs l := h.keep fun j hj => hb.block j (by
  have := h.map.lt
  have := h.bm
  omega)
theorem PMq.rowN (h : PMq W B L0 bm n u t bs l) : RowN W (some ⟨B, 0, none⟩) l := by
  obtain ⟨a, c, hv, -, -, hr⟩ := h.row.slice pn_len
  injection hv with e1 e2 e3
  subst e1
  refine ⟨hr, fun x hx => ⟨?_, ?_⟩⟩
  · obtain ⟨a1, c1, h1, -, -, h2⟩ := (h.own.acl x hx).slice gr_okT.len
    unfold PN.av at h1
    injection h1 with q1 q2 q3
    rw [q1]
    exact row_grs h2
  · obtain ⟨a1, c1, h1, -, -, h2⟩ := (h.own.wds x hx).slice wd_okC.len
    unfold PN.wv at h1
    injection h1 with q1 q2 q3
    rw [q1]
    exact row_wrds h2
theorem PMq.mat (h : PMq W B L0 bm n u t bs l) : MAt bm none (B + 1) (bs.map (segQ l u t)) W := by
  refine ⟨h.map, fun x hx hi => ?_⟩
  obtain ⟨q, _, rfl⟩ := List.mem_map.1 hx
  rw [segQ_g] at hi
  obtain ⟨-, h1, h2⟩ := segQ_v l u t q hi
  rw [h1, h2]
  exact h.own.wds _ (gotP_find (seg_is hi).1).2.1
theorem own_same {α : Type} {e : TypeId} {sz : Nat} {f : α → List Value} {base : Nat} {v : Value} {l : List α} {s : α → α} (h : OwnR e sz f W base v l) (hs : ∀ x, f (s x) = f x) : OwnR e sz f W base v (l.map s) := by
  have he : (l.map s).flatMap f = l.flatMap f := by
    rw [List.flatMap_map]
    congr 1
    funext x
    exact hs x
  unfold OwnR at h ⊢
  rw [List.length_map, he]
  exact h
theorem PMq.wrote (h : PMq W B L0 bm n u t bs l) (ho : Ordered (namesP l)) (hne : ∀ x ∈ namesP l, x.path ≠ ⟨#[]⟩) {k o y : Int} (hw : WrtM (bs.map (segQ l u t)) k o y W W') (hk : (kn ((bs.map (segQ l u t)).map (·.g)) k).is = true) (hin : inG (kn ((bs.map (segQ l u t)).map (·.g)) k) o) :
    PMq W' B L0 bm n u t bs (l.map (setP (bindP bs k) o.toNat y)) ∧ Sole L0 W W ∧ (∀ j, j < W.heap.size → (j < B + 1 ∨ L0 ≤ j) → W'.heap[j]? = W.heap[j]?) := by
  obtain ⟨g, hg, hgl, hs, hce⟩ := hw
  have hkp := knP_mem hk
  have hkg := knP_g (bs.map (segQ l u t)) k
  obtain ⟨p, hp, hq⟩ : ∃ p, bindP bs k = p ∧ knP (bs.map (segQ l u t)) k = segQ l u t p := by
    have h1 := hkp.2.1
    rw [List.getElem?_map] at h1
    obtain ⟨p, hp, hq⟩ := Option.map_eq_some_iff.1 h1
    refine ⟨p, ?_, hq.symm⟩
    unfold bindP
    rw [List.getD_eq_getElem?_getD, hp]
    rfl
  rw [hp]
  rw [hq] at hg hkg
  rw [← hkg] at hk hin
  rw [segQ_g] at hk
  obtain ⟨hsee, hdir, hsg⟩ := seg_is hk
  obtain ⟨-, hv, hws⟩ := segQ_v l u t p hk
  obtain ⟨hfd, hdm, hdp⟩ := gotP_find hsee
  obtain ⟨d, hd⟩ : ∃ d, gotP l p = d := ⟨_, rfl⟩
  rw [hd] at hv hws hfd hdm hdp
  rw [hv] at hg
  have hgB := ((h.own.wds d hdm).lt hg).1
  have hgL := h.lo d hdm g (.inr hg)
  have hlm := h.map.lt
  have hbm := h.bm
  have hz : eqs (⟨#[]⟩ : ByteArray) p = false := eqs_ne fun q => hne d.n (List.mem_map.2 ⟨d, hdm, rfl⟩) (by rw [eqs_iff.1 hdp, q])
  have hoth : ∀ j, j < W.heap.size → j ≠ g → W'.heap[j]? = W.heap[j]? := hs.block
  have hor : l.Pairwise fun a b => lt a.n.path b.n.path = true := by
    have := ho
    unfold Ordered namesP at this
    rw [List.pairwise_map] at this
    exact this
  have huniq : ∀ x ∈ l, eqs x.n.path p = true → x = d := fun x hx hxp => by
    have e : x.n.path = d.n.path := by rw [eqs_iff.1 hxp, eqs_iff.1 hdp]
    rcases two_of hor hx hdm with q | q | q
    · exact q
    · exact absurd e (lt_ne q)
    · exact absurd e.symm (lt_ne q)
  have hgne : ∀ x ∈ l, eqs x.n.path p = false → ∀ j, x.wv.ownBlock = some j → j ≠ g := fun x hx hxp j hj q => by
    subst q
    rcases two_of h.own.dis hx hdm with r | r | r
    · rw [r, hdp] at hxp; cases hxp
    · exact r j hj hg
    · exact r j hg hj
  have hlen : o.toNat < d.n.words.length ∧ 0 ≤ o := by
    have h1 := hin.1
    have h2 := hin.2
    rw [hws] at h2
    omega
  refine ⟨⟨by rw [List.length_map]; exact h.ln, (own_same h.row (setP_cs p o.toNat y)).keep fun j hj => ?_, ⟨fun x hx => ?_, fun x hx => ?_, ?_, fun x hx z hz' j hj => ?_⟩, fun x hx j hj => ?_, ?_, hbm, h.B0⟩, ⟨rfl, rfl, rfl, Nat.le_refl _, fun _ _ _ => rfl⟩, fun j hj hjj => hoth j hj (by omega)⟩
  · have e : B = j := by simpa [Value.ownBlock] using hj
    exact hoth j (by have := h.B0; omega) (by omega)
  · obtain ⟨x0, hx0, rfl⟩ := List.mem_map.1 hx
    rw [setP_av]
    have h1 := h.own.acl x0 hx0
    have h2 : (setP p o.toNat y x0).n.acl = x0.n.acl := setN_acl _ _ _ _
    rw [h2]
    exact h1.keep fun j hj => hoth j (h1.lt hj).2 (fun q => h.own.apt d hdm x0 hx0 g hg (by rw [hj, q]))
  · obtain ⟨x0, hx0, rfl⟩ := List.mem_map.1 hx
    rw [setP_wv]
    have h1 := h.own.wds x0 hx0
    cases hxp : eqs x0.n.path p
    · have h2 : (setP p o.toNat y x0).n.words = x0.n.words := by
        unfold setP setN
        rw [if_neg (by rw [hxp]; decide)]
      rw [h2]
      exact h1.keep fun j hj => hoth j (h1.lt hj).2 (hgne x0 hx0 hxp j hj)
    · have h2 : (setP p o.toNat y x0).n.words = x0.n.words.set o.toNat y := by
        unfold setP setN
        rw [if_pos hxp]
      rw [h2]
      have h3 := huniq x0 hx0 hxp
      subst h3
      obtain ⟨g', cap', hv', hg'⟩ : ∃ g' cap', x0.wv = .slice (some ⟨g', 0, none⟩) x0.n.words.length cap' ∧ True := by
        obtain ⟨g', cap', e1, -, -⟩ := h1.formR (by omega)
        exact ⟨g', cap', e1, trivial⟩
      have hgg : g' = g := by
        rw [hv'] at hg
        simpa [Value.ownBlock] using hg
      subst hgg
      rw [hv'] at h1 ⊢
      obtain ⟨xw, hxw⟩ : ∃ xw, x0.n.words[o.toNat]? = some xw := ⟨_, List.getElem?_eq_getElem hlen.1⟩
      have h4 := (OwnR.storedR (f := wcl) (sz := 1) wd_okC.len h1 rfl (j := o.toNat) (o := 0) (y := y) (u := .int .i64 y) hxw (by decide) rfl).1
      rw [Nat.mul_one, Nat.add_zero] at h4
      refine h4.keep fun j hj => ?_
      have e : g' = j := by simpa [Value.ownBlock] using hj
      rw [← e]
      exact hce
  · rw [List.pairwise_map]
    exact List.Pairwise.imp (fun {a b} q j => by rw [setP_wv, setP_wv]; exact q j) h.own.dis
  · obtain ⟨x0, hx0, rfl⟩ := List.mem_map.1 hx
    obtain ⟨z0, hz0, rfl⟩ := List.mem_map.1 hz'
    rw [setP_wv] at hj
    rw [setP_av]
    exact h.own.apt x0 hx0 z0 hz0 j hj
  · obtain ⟨x0, hx0, rfl⟩ := List.mem_map.1 hx
    rw [setP_av, setP_wv] at hj
    exact h.lo x0 hx0 j hj
  · have key : ∀ j, (knP (bs.map (segQ (l.map (setP p o.toNat y)) u t)) j).g.is = (knP (bs.map (segQ l u t)) j).g.is ∧ segV (bs.map (segQ (l.map (setP p o.toNat y)) u t)) j = segV (bs.map (segQ l u t)) j := fun j => by
      unfold segV
      rw [knP_map, knP_map]
      by_cases hj : j < 0
      · rw [if_pos hj, if_pos hj]
        exact ⟨rfl, rfl⟩
      · rw [if_neg hj, if_neg hj]
        cases bs[j.toNat]? with
        | none => exact ⟨rfl, rfl⟩
        | some q =>
          have h5 := segV_set l p o.toNat y u t q hz
          exact ⟨h5.1, by show Value.agg (sg6 (segQ (l.map (setP p o.toNat y)) u t q).g (segQ (l.map (setP p o.toNat y)) u t q).v).toArray = Value.agg (sg6 (segQ l u t q).g (segQ l u t q).v).toArray; rw [h5.2]⟩
    refine (h.map.same (hoth bm hlm (by omega))).turn (fun j _ => (key j).2) (fun j => ?_)
    rw [← knP_g, ← knP_g]
    exact (key j).1
end
end Go.Proofs.YtidihdiffiffmaaGreatDoor
namespace Go.Proofs.YtidihdiffiffmaaGreatDoor
open Go.RowKit
set_option maxRecDepth 8000
set_option linter.unusedSimpArgs false
set_option linter.unusedVariables false
def FW (O : Ot) : Prop := O.e ≠ 0 → O.wr = none
theorem ite_fw {p : Prop} [Decidable p] {x y : Ot} (h1 : p → FW x) (h2 : ¬ p → FW y) : FW (if p then x else y) := by
  by_cases h : p
  · rw [if_pos h]; exact h1 h
  · rw [if_neg h]; exact h2 h
theorem fw_step (c : Cp) (m : List Sg) : FW (stepC c m) := by
  have ok : ∀ t, FW (okC t) := fun t h => absurd rfl h
  have fl : ∀ e, FW (flt e) := fun e _ => rfl
  unfold stepC
  refine ite_fw (fun _ => ok _) (fun _ => ite_fw (fun _ => fl _) (fun _ => ?_))
  unfold opC
  refine ite_fw (fun _ => ok _) (fun _ => ?_)
  refine ite_fw (fun _ => ite_fw (fun _ => fl _) (fun _ => ok _)) (fun _ => ?_)
  refine ite_fw (fun _ => ite_fw (fun _ => fl _) (fun _ => fun h => absurd rfl h)) (fun _ => ?_)
  refine ite_fw (fun _ => ok _) (fun _ => ?_)
  refine ite_fw (fun _ => ok _) (fun _ => ?_)
  refine ite_fw (fun _ => ite_fw (fun _ => fl _) (fun _ => ok _)) (fun _ => ?_)
  refine ite_fw (fun _ => ok _) (fun _ => ?_)
  refine ite_fw (fun _ => ok _) (fun _ => ?_)
  refine ite_fw (fun _ => ite_fw (fun _ => fl _) (fun _ => ok _)) (fun _ => ?_)
  refine ite_fw (fun _ => ok _) (fun _ => ?_)
  refine ite_fw (fun _ => ite_fw (fun _ => fl _) (fun _ => ok _)) (fun _ => ?_)
  refine ite_fw (fun _ => ite_fw (fun _ => fl _) (fun _ => ok _)) (fun _ => ?_)
  exact ite_fw (fun _ => fun h => absurd rfl h) (fun _ => ok _)
structure Oth (b B L0 : Nat) (w W : World) : Prop where
  os : W.os = w.os
  tape : W.tape = w.tape
  output : W.output = w.output
  size : w.heap.size ≤ W.heap.size
  block : ∀ j, j < b → (j < B + 1 ∨ L0 ≤ j) → W.heap[j]? = w.heap[j]?
theorem Oth.of {b B L0 : Nat} {w W : World} (h : Below b w W) : Oth b B L0 w W := ⟨h.os, h.tape, h.output, h.size, fun j hj _ => h.block j hj⟩
theorem Oth.trans {b B L0 : Nat} {w W X : World} (h : Oth b B L0 w W) (k : Oth b B L0 W X) : Oth b B L0 w X := ⟨k.os.trans h.os, k.tape.trans h.tape, k.output.trans h.output, Nat.le_trans h.size k.size, fun j hj hc => (k.block j hj hc).trans (h.block j hj hc)⟩
theorem path_ne {L : List Nod} (h : InvP L) : ∀ x ∈ L, x.path ≠ ⟨#[]⟩ := fun x hx q => by
  have h1 := (nodC_zero.1 (h.tr.ok x hx)).1
  rw [q] at h1
  exact absurd h1 (by decide +kernel)
theorem step_pm {w W1 : World} {B L0 bm n : Nat} {u : ByteArray} {t : Lab} {bs : List ByteArray} {l : List PN} {c : Cp} {nn : Int} {O : Ot} (hP : PMq w B L0 bm n u t bs l) (hI : InvP (namesP l)) (hO : stepC c (segsP (namesP l) u t bs) = O) (hw : Wr bm w.heap.size (bs.map (segQ l u t)) nn w O.wr W1) :
    ∃ l1, PMq W1 B L0 bm n u t bs l1 ∧ namesP l1 = wrL (namesP l) bs O.wr ∧ Oth w.heap.size B L0 w W1 := by
  cases hr : O.wr with
  | none =>
    rw [hr] at hw
    have hb : Below w.heap.size w W1 := hw
    exact ⟨l, hP.below hb, rfl, Oth.of hb⟩
  | some p =>
    obtain ⟨k, o, y⟩ := p
    rw [hr] at hw
    have hwm : WrtM (bs.map (segQ l u t)) k o y w W1 := hw
    obtain ⟨h1, -, h2, -⟩ := wrQ_step c (segsP (namesP l) u t bs) k o y (by rw [hO]; exact hr)
    rw [← segs_names] at h1 h2
    obtain ⟨h3, -, h4⟩ := hP.wrote hI.tr.ord (path_ne hI) hwm h1 h2
    refine ⟨_, h3, by rw [setP_names]; rfl, ?_⟩
    obtain ⟨g, hg, hgl, hs, -⟩ := hwm
    exact ⟨hs.os, hs.tape, hs.output, hs.size, h4⟩
structure PS (v0 : Value) (w W : World) (B L0 bm n N : Nat) (u : ByteArray) (t : Lab) (bs : List ByteArray) (R : Rn) (m : Nat) (l : List PN) (c : Cp) (v : Value) (acc : List Int) (tv : Value) : Prop where
  bl : Oth w.heap.size B L0 w W
  pm : PMq W B L0 bm n u t bs l
  inv : InvP (namesP l)
  ok : c.Ok
  st : BlkL w.heap.size (stCs c v) W
  rs : BlkL (w.heap.size + 1) (stCs zeroC nilS) W
  stk : OwnR 102 3 frc W L0 v c.st
  out : OwnR 2 1 wcl W (w.heap.size + 2) tv acc
  apa : ∀ k, v.ownBlock = some k → k ≠ w.heap.size ∧ k ≠ w.heap.size + 1 ∧ tv.ownBlock ≠ some k
  al : acc.length + m ≤ N
  lw : bm < w.heap.size
  nb : ∀ k, v.ownBlock = some k → v0.ownBlock = some k ∨ w.heap.size ≤ k
  eqn : c.hl = false → R = accR acc (runP u t bs m (namesP l) c)
  eqh : c.hl = true → R = ⟨namesP l, c, acc, true, 0⟩
def StepsR (v0 : Value) (B L0 bm n : Nat) (u : ByteArray) (t : Lab) (bs : List ByteArray) (R : Rn) (w : World) (e : Ending) (w' : World) : Prop := ∃ (l' : List PN) (v' tv : Value), e = .returned (.tuple #[.agg (stCs R.c v').toArray, tv, .int .i64 R.e]) ∧ PMq w' B L0 bm n u t bs l' ∧ namesP l' = R.l ∧ InvP R.l ∧ R.c.Ok ∧ OwnR 102 3 frc w' L0 v' R.c.st ∧ OwnR 2 1 wcl w' (w.heap.size + 2) tv R.out ∧ R.over = (R.c.hl || (R.e != 0)) ∧ Oth w.heap.size B L0 w w' ∧ ∀ k, v'.ownBlock = some k → v0.ownBlock = some k ∨ w.heap.size ≤ k
theorem results_st3 {fn : Func} {T : TypeId} {d : TypeDesc} (h : fn.results = #[.cell 6 T, .tmp 7, .tmp 8]) (tmps : Array Value) (w : World) (b : Nat) (h6 : tmps.getD 6 undef = .pointer (some ⟨b, 0, none⟩)) (v7 v8 : Value) (h7 : tmps.getD 7 undef = v7) (h8 : tmps.getD 8 undef = v8)
    (cs : List Value) (hr : w.rangeAt b 0 cs) (hu : Tryz.prog.underlying T = some d) (hd : d.isRow = true) (hi : (Tryz.prog.info? T).map (·.size) = some cs.length) : (results fn tmps).run Tryz.prog w = .ok (.tuple #[.agg cs.toArray, v7, v8]) w := by
  have g6 : tmps[6]?.getD undef = .pointer (some ⟨b, 0, none⟩) := by simpa using h6
  have g7 : tmps[7]?.getD undef = v7 := by simpa using h7
  have g8 : tmps[8]?.getD undef = v8 := by simpa using h8
  have e := run_loadVar_mid (P := Tryz.prog) w b 0 T cs d hr hu hd hi
  simp [results, h, g6, g7, g8, asAddr, e]
theorem PS.ends {v0 : Value} {w W W9 : World} {B L0 bm n N : Nat} {u : ByteArray} {t : Lab} {bs : List ByteArray} {R : Rn} {m : Nat} {l : List PN} {c : Cp} {v : Value} {acc : List Int} {tv : Value} {e : Int} {over : Bool} (h : PS v0 w W B L0 bm n N u t bs R m l c v acc tv) (hW : W.setCells (w.heap.size + 1) 0 (stCs c v) = W9) (hR : R = ⟨namesP l, c, acc, over, e⟩) (ho : over = (c.hl || (e != 0))) :
    StepsR v0 B L0 bm n u t bs R w (.returned (.tuple #[.agg (stCs c v).toArray, tv, .int .i64 e])) W9 := by
  have hk : ∀ j, j ≠ w.heap.size + 1 → W9.heap[j]? = W.heap[j]? := fun j hj => by rw [← hW]; exact heap_setCells_other hj _ _ _
  have hbm := h.pm.bm
  have hml := h.pm.map.lt
  have hs := h.bl.size
  have hsz : W.heap.size ≤ W9.heap.size := by rw [← hW]; exact (Below.cells (B := 0) (b := w.heap.size + 1) (Nat.zero_le _) (stCs c v) 0 (Below.refl 0 W)).size
  have hb9 := Below.cells (B := w.heap.size) (b := w.heap.size + 1) (Nat.le_succ _) (stCs c v) 0 (Below.refl w.heap.size W)
  rw [hW] at hb9
  subst hR
  refine ⟨l, v, tv, rfl, h.pm.keep fun j hj => hk j (by have := h.lw; rcases hj with hj | hj <;> omega), rfl, h.inv, h.ok, h.stk.keep fun j hj => hk j (h.apa j hj).2.1, h.out.keep fun j hj => hk j (by have := (h.out.lt hj).1; omega), ho, h.bl.trans (Oth.of hb9), h.nb⟩
theorem PS.reach {v0 : Value} {w W : World} {B L0 bm n N : Nat} {u : ByteArray} {t : Lab} {bs : List ByteArray} {R : Rn} {m : Nat} {l : List PN} {c : Cp} {v : Value} {acc : List Int} {tv : Value} (h : PS v0 w W B L0 bm n N u t bs R m l c v acc tv) : ∃ W9, W.setCells (w.heap.size + 1) 0 (stCs c v) = W9 ∧ W.there (w.heap.size + 1) 0 (stCs c v).length ∧ W9.rangeAt (w.heap.size + 1) 0 (stCs c v) := by
  obtain ⟨W9, h1, h2, h3, -⟩ := put_any h.rs (ds := stCs c v) (by rw [st_len h.ok.ps]; rfl) (by rw [st_len h.ok.ps]; decide)
  exact ⟨W9, h1, h2, h3.range⟩
theorem PS.next {v0 : Value} {w Z : World} {B L0 bm n N : Nat} {u : ByteArray} {t : Lab} {bs : List ByteArray} {R : Rn} {k : Nat} {l1 : List PN} {c1 : Cp} {v1 : Value} {acc2 : List Int} {tv2 : Value} {X : List Value} (hbl : Oth w.heap.size B L0 w Z) (hP : PMq Z B L0 bm n u t bs l1) (hinv : InvP (namesP l1)) (hok : c1.Ok) (hst : BlkL w.heap.size X Z) (hX : X.length = 18) (hrs : BlkL (w.heap.size + 1) (stCs zeroC nilS) Z)
    (hv1 : OwnR 102 3 frc Z L0 v1 c1.st) (hout : OwnR 2 1 wcl Z (w.heap.size + 2) tv2 acc2) (hap : ∀ j, v1.ownBlock = some j → j ≠ w.heap.size ∧ j ≠ w.heap.size + 1 ∧ tv2.ownBlock ≠ some j) (hal : acc2.length + k ≤ N) (hlw : bm < w.heap.size) (hnb : ∀ k, v1.ownBlock = some k → v0.ownBlock = some k ∨ w.heap.size ≤ k) (he1 : c1.hl = false → R = accR acc2 (runP u t bs k (namesP l1) c1)) (he2 : c1.hl = true → R = ⟨namesP l1, c1, acc2, true, 0⟩) :
    ∃ W8, Z.setCells w.heap.size 0 (stCs c1 v1) = W8 ∧ Z.there w.heap.size 0 (stCs c1 v1).length ∧ PS v0 w W8 B L0 bm n N u t bs R k l1 c1 v1 acc2 tv2 := by
  have hl := st_len (v := v1) hok.ps
  obtain ⟨W8, h1, h2, h3, h4⟩ := put_any hst (ds := stCs c1 v1) (by rw [hX, hl]) (by rw [hl]; decide)
  have hk : ∀ j, j ≠ w.heap.size → W8.heap[j]? = Z.heap[j]? := fun j hj => by rw [← h1]; exact heap_setCells_other hj _ _ _
  have hL0 := hP.bm
  refine ⟨W8, h1, h2, hbl.trans (Oth.of (h4 w.heap.size Z (Nat.le_refl _) (Below.refl _ _))), hP.keep fun j hj => hk j (by rcases hj with hj | hj <;> omega), hinv, hok, h3, ⟨hrs.1.same (hk _ (by omega)), Nat.lt_of_lt_of_le hrs.2 (h4 w.heap.size Z (Nat.le_refl _) (Below.refl _ _)).size⟩, hv1.keep fun j hj => hk j (hap j hj).1, hout.keep fun j hj => hk j (by have := (hout.lt hj).1; omega), hap, hal, hlw, hnb, he1, he2⟩
theorem appC {t : TypeId} {u v r : Value} {w w' : World} (x y : Operand) (hc : (Builtin.append_ #[t, t] t #[u, v]).run Tryz.prog w = .ok r w') {ops : Array Oper} {o : Oper} {rest : List Oper} {Q : Exit → Act → World → Prop} {a : Act} (h1 : o.guard = none) (h2 : o.op = .call { callee := .builtin .append, args := #[x, y], argTypes := #[t, t] }) (h3 : o.type = t) (h4 : a.eval x = u) (h5 : a.eval y = v) (h6 : wpList Tryz.prog ops Q rest (a.put o.dst r) w') : wpList Tryz.prog ops Q (o :: rest) a w := wpList_append h1 x y h2 h3 h4 h5 hc h6
set_option maxRecDepth 8000 in
set_option maxHeartbeats 8000000 in
theorem psteps_any {B L0 bm n : Nat} {u : ByteArray} {t : Lab} {bs : List ByteArray} {l0 : List PN} (c0 : Cp) (v0 : Value) (N : Nat) (R : Rn) (hN : N ≤ 100) (hbs : bs.length ≤ 4) (hI : InvP (namesP l0)) (hc : c0.Ok) (hh0 : c0.hl = false) (hR : runP u t bs N (namesP l0) c0 = R) (w : World) (hP : PMq w B L0 bm n u t bs l0) (hv : OwnR 102 3 frc w L0 v0 c0.st) :
    Calls Tryz.prog 35 #[.agg (stCs c0 v0).toArray, memI bm, .int .i64 (N : Int)] w (StepsR v0 B L0 bm n u t bs R w) := by
  have hundS := Tryz.underlying45
  have hszS : (Tryz.prog.info? 45).map (·.size) = some 18 := by kernel_rfl
  have g0 := alloc_below w (.cells (stCs c0 v0).toArray 45)
  have f0 := blkl_alloc w (stCs c0 v0).toArray 45
  have f1 := blkl_alloc (w.alloc (.cells (stCs c0 v0).toArray 45)) (stCs zeroC nilS).toArray 45
  have g1 := alloc_below (w.alloc (.cells (stCs c0 v0).toArray 45)) (.cells (stCs zeroC nilS).toArray 45)
  rw [World.size_alloc] at f1
  have hS0 : PS v0 w ((w.alloc (.cells (stCs c0 v0).toArray 45)).alloc (.cells (stCs zeroC nilS).toArray 45)) B L0 bm n N u t bs R N l0 c0 v0 [] nilS := ⟨Oth.of (Below.then g0 g1), (hP.below g0).below g1, hI, hc, stab_blk _ _ _ _ f0 g1, f1, (hv.below g0).below g1, OwnR.nil _ _ _ _ _, fun k hk => ⟨by have := (hv.lt hk).2; omega, by have := (hv.lt hk).2; omega, fun q => by cases q⟩, by simp, hP.map.lt, fun k hk => .inl hk, fun _ => by rw [accR_nil]; exact hR.symm, fun q => by rw [hh0] at q; cases q⟩
  replace hS0 : PS v0 w ((w.alloc (.cells (stCs c0 v0).toArray 45)).alloc (.cells #[.int .i64 0, .int .i64 0, .int .i64 0, .int .i64 0, .int .i64 0, .int .i64 0, .int .i64 0, .int .i64 0, .int .i64 0, .int .i64 0, .int .i64 0, .int .i64 0, .int .i64 0, .int .i64 0, .int .i64 0, .int .i64 0, .slice none 0 0, .bool false] 45)) B L0 bm n N u t bs R N l0 c0 v0 [] nilS := hS0
  clear f0 f1 g0 g1 hP hv hc hI hR hh0
  obtain ⟨X0, hX0⟩ : ∃ X0, stCs c0 v0 = X0 := ⟨_, rfl⟩
  rw [hX0] at hS0 ⊢
  clear hX0
  go_enter Tryz.func35, Tryz.ntmps35
  go_upto_region 1 with fail
  generalize (w.alloc (.cells X0.toArray 45)).alloc (.cells #[.int .i64 0, .int .i64 0, .int .i64 0, .int .i64 0, .int .i64 0, .int .i64 0, .int .i64 0, .int .i64 0, .int .i64 0, .int .i64 0, .int .i64 0, .int .i64 0, .int .i64 0, .int .i64 0, .int .i64 0, .int .i64 0, .slice none 0 0, .bool false] 45) = W0 at *
  go_wp2_with fail
  go_loopw [2, 9] (fun t2 t9 wr => ∃ (m : Nat) (l : List PN) (c : Cp) (v : Value) (acc : List Int) (tv : Value), t2 = .int .i64 (m : Int) ∧ tv = t9 ∧ m ≤ N ∧ PS v0 w wr B L0 bm n N u t bs R m l c v acc tv) (fun t2 _ _ => (Go.RowKit.intOf t2).toNat)
  case atStart => exact ⟨N, l0, c0, v0, [], _, rfl, rfl, Nat.le_refl _, hS0⟩
  case round =>
    clear hS0
    obtain ⟨m, l, c, v, acc, tv, rfl, rfl, hmN, hS⟩ := hrel
    have hXl : (stCs c v).length = 18 := st_len hS.ok.ps
    have x17 := (hS.st.1 17 _ (st_hl hS.ok.ps)).1
    have hXr := hS.st.range
    have hvf := hS.stk.slice frc_len
    obtain ⟨W9, hW9, hth9, hr9⟩ := hS.reach
    by_cases hgo : m = 0 ∨ c.hl = true
    · have hend : StepsR v0 B L0 bm n u t bs R w (.returned (.tuple #[.agg (stCs c v).toArray, tv, .int .i64 0])) W9 := by
        rcases hgo with h0 | h0
        · cases hh : c.hl with
          | true => exact hS.ends hW9 (hS.eqh hh) (by rw [hh]; rfl)
          | false =>
            refine hS.ends hW9 (over := false) ?_ (by rw [hh]; rfl)
            rw [hS.eqn hh, h0]
            simp [runP, accR]
        · exact hS.ends hW9 (hS.eqh h0) (by rw [h0]; rfl)
      have hone : ∀ y ∈ stCs c v, y.oneCell' = true := by
        obtain ⟨a1, c1, hv1, -⟩ := hvf
        exact st_one c v (by rw [hv1]; rfl)
      clear hS hvf
      obtain ⟨X, hX⟩ : ∃ X, stCs c v = X := ⟨_, rfl⟩
      rw [hX] at hXl hXr hW9 hth9 hr9 hend hone
      have hszX : (Tryz.prog.info? 45).map (·.size) = some X.length := by rw [hXl]; exact hszS
      clear hX hXl
      by_cases h0 : m = 0
      · subst h0
        clear hgo
        go_wp2_with (first | (refine wpList_load_row rfl _ rfl w.heap.size rfl X hXr hundS rfl hszX ?_) | (refine wpList_store_row rfl _ _ rfl (w.heap.size + 1) rfl X rfl hth9 hszX hone hW9 ?_) | fail)
        refine bodyPost_ret (v := _) (results_st3 rfl _ _ (w.heap.size + 1) rfl _ _ rfl rfl X hr9 hundS rfl hszX) rfl ?_
        exact hend
      · have h1 : c.hl = true := by rcases hgo with q | q; exact absurd q h0; exact q
        have h2 : (0 : Int) < (m : Int) := by omega
        rw [h1] at x17
        clear hgo h1
        go_wp2_with (first | (refine wpList_load_row rfl _ rfl w.heap.size rfl X hXr hundS rfl hszX ?_) | (refine wpList_store_row rfl _ _ rfl (w.heap.size + 1) rfl X rfl hth9 hszX hone hW9 ?_) | fail)
        refine bodyPost_ret (v := _) (results_st3 rfl _ _ (w.heap.size + 1) rfl _ _ rfl rfl X hr9 hundS rfl hszX) rfl ?_
        exact hend
    · have hm0 : m ≠ 0 := fun q => hgo (.inl q)
      have hhl : c.hl = false := by
        cases q : c.hl with
        | false => rfl
        | true => exact absurd (.inr q) hgo
      obtain ⟨k, rfl⟩ : ∃ k, m = k + 1 := ⟨m - 1, by omega⟩
      clear hgo hm0
      obtain ⟨a1, c1, hv1, -, hn1, hfr⟩ := hvf
      have hMG : MG (bs.map (segQ l u t)) := ⟨by rw [List.length_map]; omega, fun x hx => by
        obtain ⟨q, _, rfl⟩ := List.mem_map.1 hx
        rw [segQ_g]
        exact seg_ok hS.inv u t q, fun x hx => by
        obtain ⟨q, _, rfl⟩ := List.mem_map.1 hx
        cases hi : (segP (namesP l) u t q).is
        · unfold segQ
          unfold segP at hi
          by_cases h0 : seeE (namesP l) t q ≠ 0 ∨ (gotN (namesP l) q).dir = true
          · rw [if_pos h0]; exact fun _ => rfl
          · rw [if_neg h0] at hi; cases hi
        · obtain ⟨h1, h2, -⟩ := segQ_v l u t q hi
          have h3 := hS.pm.own.wds _ (gotP_find (seg_is hi).1).2.1
          obtain ⟨a5, c5, h5, -, h6, -⟩ := h3.slice wd_okC.len
          unfold PN.wv at h5
          injection h5 with e1 e2 e3
          rw [h1, e1, e3]
          exact h6⟩
      have kst := cstep_any c hS.ok a1 c1 hn1 bm none (B + 1) (bs.map (segQ l u t)) hMG false 0 0 0 0 ⟨by decide, by decide⟩ wr hfr hS.pm.mat
      rw [segs_names] at kst
      rw [← hv1] at kst
      obtain ⟨O, hO⟩ : ∃ O, stepC c (segsP (namesP l) u t bs) = O := ⟨_, rfl⟩
      have hOok : O.e = 0 → O.t.Ok := fun q => by rw [← hO] at q ⊢; exact step_ok hS.ok (segs_ok hS.inv u t bs) q
      have hOps : O.t.ps.length = 4 := by rw [← hO]; exact step_ps hS.ok (segs_ok hS.inv u t bs)
      have hOI : InvP (wrL (namesP l) bs O.wr) := by rw [← hO]; exact wrL_inv hS.inv hS.ok
      have hOw : O.e ≠ 0 → O.wr = none := fun q => by rw [← hO] at q ⊢; exact fw_step _ _ q
      rw [hO] at kst
      have hone : ∀ y ∈ stCs c v, y.oneCell' = true := st_one c v (by rw [hv1]; rfl)
      have h2 : (0 : Int) < ((k + 1 : Nat) : Int) := by omega
      have h3 : ((k + 1 : Nat) : Int) - 1 = (k : Int) := by omega
      rw [hhl] at x17
      obtain ⟨X, hX⟩ : ∃ X, stCs c v = X := ⟨_, rfl⟩
      rw [hX] at hXl hXr hW9 hth9 hr9 hone kst
      replace hX : Aside _ := hX
      have hszX : (Tryz.prog.info? 45).map (·.size) = some X.length := by rw [hXl]; exact hszS
      clear hMG hfr hn1 hv1
      go_upto_region 4 with fail
      clear x17
      go_wp2_with (first | (refine wpList_load_row rfl _ rfl w.heap.size rfl X hXr hundS rfl hszX ?_) | fail)
      refine kst.mono ?_
      rintro e W1 ⟨v1, rfl, ho1, hw1⟩
      obtain ⟨l1, hP1, hl1, hO1⟩ := step_pm hS.pm hS.inv hO hw1
      have hlW := hO1.size
      have hblw := hS.rs.2
      have hlw := hS.lw
      have hL0 := hS.pm.bm
      have hB0 := hS.pm.B0
      have hkp : ∀ j, j < wr.heap.size → (j < B + 1 ∨ L0 ≤ j) → W1.heap[j]? = wr.heap[j]? := hO1.block
      have hst1 : BlkL w.heap.size X W1 := by
        have := hS.st
        rw [hX.out] at this
        exact ⟨this.1.same (hkp _ (by omega) (.inr (by omega))), by omega⟩
      have hrs1 : BlkL (w.heap.size + 1) (stCs zeroC nilS) W1 := ⟨hS.rs.1.same (hkp _ (by omega) (.inr (by omega))), by omega⟩
      have hout1 := hS.out.keep fun j hj => hkp j (hS.out.lt hj).2 (.inr (by have := (hS.out.lt hj).1; omega))
      have hstk1 := hS.stk.keep fun j hj => hkp j (hS.stk.lt hj).2 (.inr (hS.stk.lt hj).1)
      have hbl1 : Oth w.heap.size B L0 w W1 := hS.bl.trans ⟨hO1.os, hO1.tape, hO1.output, hO1.size, fun j hj hc => hO1.block j (by omega) hc⟩
      have hYl : (stCs O.t v1).length = 18 := st_len hOps
      obtain ⟨a6, c6, hv6, -⟩ := ho1.slice frc_len
      have hYo : ∀ y ∈ stCs O.t v1, y.oneCell' = true := st_one O.t v1 (by rw [hv6]; rfl)
      obtain ⟨W2, hW2, hth2, hY2, hB2⟩ := put_new W1 #[.int .i64 0, .int .i64 0, .int .i64 0, .int .i64 0, .int .i64 0, .int .i64 0, .int .i64 0, .int .i64 0, .int .i64 0, .int .i64 0, .int .i64 0, .int .i64 0, .int .i64 0, .int .i64 0, .int .i64 0, .int .i64 0, .slice none 0 0, .bool false] 45 (stCs O.t v1) (by rw [hYl]; rfl) (by rw [hYl]; decide)
      have hst2 := stab_blk _ _ _ _ hst1 hB2
      have hrs2 := stab_blk _ _ _ _ hrs1 hB2
      have hout2 := hout1.below hB2
      have hstk2 := hstk1.below hB2
      have ho2 := ho1.below hB2
      have hP2 := hP1.below hB2
      have hl12 : W1.heap.size < W2.heap.size := hY2.2
      have hbl2 : Oth w.heap.size B L0 w W2 := hbl1.trans (Oth.of ⟨hB2.os, hB2.tape, hB2.output, hB2.size, fun j hj => hB2.block j (by omega)⟩)
      have hapa1 : ∀ j, v1.ownBlock = some j → j ≠ w.heap.size ∧ j ≠ w.heap.size + 1 ∧ wr.heap.size ≤ j := fun j hj => ⟨by have := (ho1.lt hj).1; omega, by have := (ho1.lt hj).1; omega, (ho1.lt hj).1⟩
      have htvl : ∀ j, tv.ownBlock = some j → w.heap.size + 2 ≤ j ∧ j < wr.heap.size := fun j hj => hS.out.lt hj
      clear hst1 hrs1 hout1 hstk1 ho1 hP1 hbl1 hB2 hw1 hO1 hkp
      have heqn := hS.eqn hhl
      have hal := hS.al
      have hinv := hS.inv
      have hapa := hS.apa
      have hcok := hS.ok
      have hnb0 := hS.nb
      have hnb1 : ∀ j, v1.ownBlock = some j → v0.ownBlock = some j ∨ w.heap.size ≤ j := fun j hj => .inr (by have := (hapa1 j hj).2.2; omega)
      clear hS
      by_cases he : O.e = 0
      rotate_left
      · have hwn := hOw he
        rw [hwn] at hl1
        have hS2 : PS v0 w W2 B L0 bm n N u t bs R 0 l1 c v acc tv ∨ True := .inr trivial
        have hR : R = ⟨namesP l1, c, acc, true, O.e⟩ := by
          rw [heqn, runP_fault hO he, hl1]
          simp [accR, wrL]
        obtain ⟨W8, hW8, hth8, hr8⟩ : ∃ W8, W2.setCells (w.heap.size + 1) 0 X = W8 ∧ W2.there (w.heap.size + 1) 0 X.length ∧ W8.rangeAt (w.heap.size + 1) 0 X := by
          obtain ⟨W8, h1, h2, h3, -⟩ := put_any hrs2 (ds := X) (by rw [hXl]; rfl) (by rw [hXl]; decide)
          exact ⟨W8, h1, h2, h3.range⟩
        have hk8 : ∀ j, j ≠ w.heap.size + 1 → W8.heap[j]? = W2.heap[j]? := fun j hj => by rw [← hW8]; exact heap_setCells_other hj _ _ _
        have hb8 := Below.cells (B := w.heap.size) (b := w.heap.size + 1) (Nat.le_succ _) X 0 (Below.refl w.heap.size W2)
        rw [hW8] at hb8
        have hend : StepsR v0 B L0 bm n u t bs R w (.returned (.tuple #[.agg X.toArray, tv, .int .i64 O.e])) W8 := by
          subst hR
          refine ⟨l1, v, tv, by rw [← hX.out], hP2.keep fun j hj => hk8 j (by rcases hj with hj | hj <;> omega), rfl, by show InvP (namesP l1); rw [hl1]; exact hinv, hcok, hstk2.keep fun j hj => hk8 j (hapa j hj).2.1, hout2.keep fun j hj => hk8 j (by have := (hout2.lt hj).1; omega), ?_, hbl2.trans (Oth.of hb8), hnb0⟩
          show true = (c.hl || (O.e != 0))
          rw [hhl, show (O.e != 0) = true by simpa using he]
          rfl
        have hq : (O.e != 0) = true := by simpa using he
        have hXr2 := hst2.range
        have hYs : (Tryz.prog.info? 45).map (·.size) = some (stCs O.t v1).length := by rw [hYl]; exact hszS
        obtain ⟨Y, hY⟩ : ∃ Y, stCs O.t v1 = Y := ⟨_, rfl⟩
        rw [hY] at hYl hYo hW2 hth2 hYs ⊢
        clear hR hP2 hout2 hstk2 hst2 hrs2 ho2 hY2 hbl2 heqn hl1 hX hY
        go_upto_region 5 with (first | (refine wpList_store_row rfl _ _ rfl W1.heap.size rfl Y rfl hth2 hYs hYo hW2 ?_) | fail)
        go_wp2_with (first | (refine wpList_load_row rfl _ rfl w.heap.size rfl X hXr2 hundS rfl hszX ?_) | (refine wpList_store_row rfl _ _ rfl (w.heap.size + 1) rfl X rfl hth8 hszX hone hW8 ?_) | fail)
        refine bodyPost_ret (v := _) (results_st3 rfl _ _ (w.heap.size + 1) rfl _ _ rfl rfl X hr8 hundS rfl hszX) rfl ?_
        exact hend
      · have hok := hOok he
        have hrun := runP_on_eq (n := k) hO he
        have hlk : acc.length + (toldO O).length + k ≤ N := by have := told_len O; omega
        have hXr2 := hY2.range
        have hYs : (Tryz.prog.info? 45).map (·.size) = some (stCs O.t v1).length := by rw [hYl]; exact hszS
        have heA : O.t.hl = false → R = accR (acc ++ toldO O) (runP u t bs k (namesP l1) O.t) := fun q => by
          rw [heqn, hrun, if_neg (by rw [q]; decide), accR_acc, hl1]
        have heB : O.t.hl = true → R = ⟨namesP l1, O.t, acc ++ toldO O, true, 0⟩ := fun q => by
          rw [heqn, hrun, if_pos q, hl1]
          rfl
        have hinv1 : InvP (namesP l1) := by rw [hl1]; exact hOI
        clear hrun heqn hl1 hOI hinv hOok hOw hstk2
        cases htd : O.told
        · have htn : toldO O = [] := by unfold toldO; rw [htd]; rfl
          rw [htn, List.append_nil] at heA heB
          obtain ⟨W8, hW8, hth8, hS8⟩ := PS.next (N := N) (k := k) hbl2 hP2 hinv1 hok hst2 hXl hrs2 (ho2.lower (by omega)) hout2 (fun j hj => ⟨(hapa1 j hj).1, (hapa1 j hj).2.1, fun q => by have := (hapa1 j hj).2.2; have := (htvl j q).2; omega⟩) (by omega) hlw hnb1 heA heB
          obtain ⟨Y, hY⟩ : ∃ Y, stCs O.t v1 = Y := ⟨_, rfl⟩
          rw [hY] at hYl hYo hW2 hth2 hYs hW8 hth8 hXr2 ⊢
          clear heA heB hP2 hout2 hst2 hrs2 ho2 hY2 hbl2 hY htn hX
          go_upto_region 7 with (first | (refine wpList_store_row rfl _ _ rfl W1.heap.size rfl Y rfl hth2 hYs hYo hW2 ?_) | fail)
          go_wp2_with (first | (refine wpList_load_row rfl _ rfl W1.heap.size rfl Y hXr2 hundS rfl hYs ?_) | (refine wpList_store_row rfl _ _ rfl w.heap.size rfl Y rfl hth8 hYs hYo hW8 ?_) | fail)
          exact ⟨⟨k, l1, O.t, v1, acc, tv, by simp, rfl, by omega, hS8⟩, by simp [Go.RowKit.intOf]⟩
        · have hacl : acc.length < 900000 := by omega
          obtain ⟨tv2, Z, hap, hout3, hgr⟩ := OwnR.push wd_okC hout2 (show w.heap.size + 2 ≤ W2.heap.size by omega) O.v (wcl O.v).toArray rfl 2 hacl
          have hap2 := @appC _ _ _ _ _ _ (.tmp 37) (.tmp 39) (show (Builtin.append_ #[34, 34] 34 #[tv, .slice (some ⟨W2.heap.size, 0, none⟩) 1 1]).run Tryz.prog (W2.alloc (.cells #[.int .i64 O.v] 2)) = .ok tv2 Z from hap)
          have htn : toldO O = [O.v] := by unfold toldO; rw [htd]; rfl
          rw [htn] at heA heB hlk
          have hkz : ∀ j, j < W2.heap.size → tv.ownBlock ≠ some j → Z.heap[j]? = W2.heap[j]? := fun j h1 h2 => hgr.by_.block j h1 fun q => h2 q.symm
          have hsz : W2.heap.size ≤ Z.heap.size := hgr.by_.size
          have htn1 : ∀ j, (j < w.heap.size + 2 ∨ wr.heap.size ≤ j) → tv.ownBlock ≠ some j := fun j hj q => by have := htvl j q; omega
          have hst3 : BlkL w.heap.size X Z := ⟨hst2.1.same (hkz _ hst2.2 (htn1 _ (by omega))), by omega⟩
          have hrs3 : BlkL (w.heap.size + 1) (stCs zeroC nilS) Z := ⟨hrs2.1.same (hkz _ hrs2.2 (htn1 _ (by omega))), by omega⟩
          have ho3 := ho2.keep fun j hj => hkz j (ho2.lt hj).2 (htn1 j (.inr (hapa1 j hj).2.2))
          have hP3 := hP2.keep (W' := Z) fun j hj => hkz j (by rcases hj with hj | hj <;> omega) (htn1 j (by rcases hj with hj | hj <;> omega))
          have hbl3 : Oth w.heap.size B L0 w Z := hbl2.trans ⟨hgr.by_.os, hgr.by_.tape, hgr.by_.output, hsz, fun j hj _ => hkz j (by omega) (htn1 j (by omega))⟩
          have hY3 : BlkL W1.heap.size (stCs O.t v1) Z := ⟨hY2.1.same (hkz _ hY2.2 (htn1 _ (by omega))), by omega⟩
          obtain ⟨W8, hW8, hth8, hS8⟩ := PS.next (N := N) (k := k) hbl3 hP3 hinv1 hok hst3 hXl hrs3 (ho3.lower (by omega)) hout3 (fun j hj => ⟨(hapa1 j hj).1, (hapa1 j hj).2.1, fun q => hgr.apart (ho2.lt hj).2 (fun q2 => htn1 j (.inr (hapa1 j hj).2.2) q2.symm) q.symm⟩) (by simpa using hlk) hlw hnb1 heA heB
          have hXr3 := hY3.range
          obtain ⟨Y, hY⟩ : ∃ Y, stCs O.t v1 = Y := ⟨_, rfl⟩
          rw [hY] at hYl hYo hW2 hth2 hYs hW8 hth8 hXr3 ⊢
          clear heA heB hP2 hout2 hst2 hrs2 ho2 hY2 hbl2 hY htn hX hst3 hrs3 ho3 hP3 hbl3 hY3 hap hgr hout3 hkz htn1
          go_upto_region 8 with (first | (refine wpList_store_row rfl _ _ rfl W1.heap.size rfl Y rfl hth2 hYs hYo hW2 ?_) | fail)
          go_wp2_with (first | (refine hap2 rfl rfl rfl rfl rfl ?_) | (refine wpList_load_row rfl _ rfl W1.heap.size rfl Y hXr3 hundS rfl hYs ?_) | (refine wpList_store_row rfl _ _ rfl w.heap.size rfl Y rfl hth8 hYs hYo hW8 ?_) | fail)
          exact ⟨⟨k, l1, O.t, v1, acc ++ [O.v], tv2, by simp, rfl, by omega, hS8⟩, by simp [Go.RowKit.intOf]⟩
end Go.Proofs.YtidihdiffiffmaaGreatDoor
