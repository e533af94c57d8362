/-
  PART 5 of what ProcConfined leans on: PcPut PcOpens ProcSeg TreeFind MonFns MonFns2 PcIdx PcKnown.
-/
import Derived.Deep.Cut
import Derived.Deep.CutRange
import Derived.Deep.RegionHeld
import Derived.Deep.CutBlock
import Derived.Test.YtidihdiffiffmaaGreatDoorProcConfinedP4
namespace Go.Proofs.YtidihdiffiffmaaGreatDoor
open Go.RowKit
set_option maxRecDepth 8000
set_option linter.unusedSimpArgs false
set_option linter.unusedVariables false
theorem wpAnyH_strong {P : Program} {ops : Array Oper} {Q : Exit → Act → World → Prop} {md : Region.Mode} {S : World → Prop} (S' : World → Prop) (hs : ∀ w, S' w → S w) : ∀ {fuel : Nat} {listed : Array Bool} {a : Act} {w : World}, wpAnyH P md ops Q S' fuel listed a w → wpAnyH P md ops Q S fuel listed a w
  | 0, _, _, _, h => h
  | fuel + 1, _, _, _, h => ⟨h.1, fun i hi => wpOp_mono (fun a' w' h' => ⟨hs _ h'.1, wpAnyH_strong S' hs h'.2⟩) (h.2 i hi)⟩
theorem own_oneP {α : Type} {e t : TypeId} {sz base : Nat} {f : α → List Value} (hE : ElemOk e t sz f) (w : World) (hb : base ≤ w.heap.size) (x : α) : OwnR e sz f (w.alloc (.cells (f x).toArray e)) base (.slice (some ⟨w.heap.size, 0, none⟩) 1 1) [x] := by
  refine ⟨by simp [hE.len], .inr ⟨w.heap.size, 1, _, rfl, hb, heap_alloc_new w _, Nat.le_refl _, by simp only [maxLen]; omega, by simp [hE.len], ?_⟩⟩
  simp only [List.flatMap_cons, List.flatMap_nil, List.append_nil, List.length_cons, List.length_nil]
  rw [List.take_of_length_le]
  simp [hE.len]
structure PPg where
  is : List Ins
  a : Option Addr
  c : Nat
def pgcl (x : PPg) : List Value := [.slice x.a x.is.length x.c]
theorem pg_len1 (x : PPg) : (pgcl x).length = 1 := rfl
def PPg.At (x : PPg) (W : World) : Prop := RowAt 3 ins3 W x.a x.is ∧ x.is.length ≤ 9223372036854775807
def rgcl (x : Rg) : List Value := [.int .i64 x.a, .int .i64 x.b, .int .i64 x.c, .int .i64 x.g]
theorem rg_len (x : Rg) : (rgcl x).length = 4 := rfl
theorem rg_one (x : Rg) : ∀ u ∈ rgcl x, u.oneCell' = true := fun u hu => by
  simp [rgcl] at hu
  rcases hu with rfl | rfl | rfl | rfl <;> rfl
theorem icell_len (x : Int) : (icell x).length = 1 := rfl
theorem intP_load (w : World) (y : Addr) (v : Value) (h : w.cell? y = some v) : (Instr.loadAt 3 (.pointer (some y))).run Tryz.prog w = .ok v w := by
  have h1 := Tryz.underlying3
  go_simp
theorem intP_store (w : World) (y : Addr) (u : Value) (v : Int) (hc : w.cell? y = some u) (hf : w.frozen? y = false) : (Instr.storeAt 3 (.pointer (some y)) (.int .i64 v)).run Tryz.prog w = .ok () (w.setCell y (.int .i64 v)) := by
  have h1 := Tryz.underlying3
  go_simp
theorem nd_build (p : ByteArray) (t : Lab) (a a2 : Option Addr) (n c n2 c2 : Nat) (w : World) : (Instr.build 36 #[(0, .string p), (2, .agg (lab4 t).toArray), (3, .slice a n c), (4, .agg #[.int .i64 4, .int .i64 4, .int .i64 4, .int .i64 0]), (5, .slice a2 n2 c2)]).run Tryz.prog w = .ok (.agg #[.string p, .bool false, .int .i64 t.s, .int .i64 t.c, .int .i64 t.i, .int .i64 t.k, .slice a n c, .int .i64 4, .int .i64 4, .int .i64 4, .int .i64 0, .slice a2 n2 c2, .int .i64 0, .int .i64 0, .int .i64 0, .int .i64 0]) w := by
  have h1 := Tryz.underlying36
  have h2 := Tryz.underlying30
  have h3 := Tryz.underlying33
  unfold lab4
  go_simp
abbrev ZNP : Array Value := #[.string ⟨#[]⟩, .bool false, .int .i64 0, .int .i64 0, .int .i64 0, .int .i64 0, .slice none 0 0, .int .i64 0, .int .i64 0, .int .i64 0, .int .i64 0, .slice none 0 0, .int .i64 0, .int .i64 0, .int .i64 0, .int .i64 0]
theorem ChrAt.kept {W W' : World} {pb k : Nat} (h : ChrAt W pb k) (hb : W'.heap[pb]? = W.heap[pb]?) (hs : W.heap.size ≤ W'.heap.size) : ChrAt W' pb k := ⟨Nat.lt_of_lt_of_le h.lt hs, (World.cell?_of_block (a := ⟨pb, 0, none⟩) hb).trans h.cell, h.hk⟩
theorem chr_ne {W : World} {gC gN k : Nat} (h : ChrAt W gC k) (hz : BlkL gN zeroP.cs W) (q : gC = gN) : False := by
  have h1 := (hz.1 0 _ rfl).1
  rw [← q, h.cell] at h1
  cases h1
theorem own_at {W : World} {B : Nat} {x : PN} (h1 : OwnR 119 2 gcl W B x.av x.n.acl) (h2 : OwnR 2 1 wcl W B x.wv x.n.words) : x.At W := by
  obtain ⟨a1, c1, e1, -, -, r1⟩ := h1.slice gr_okT.len
  obtain ⟨a2, c2, e2, -, -, r2⟩ := h2.slice wd_okC.len
  unfold PN.av at e1
  unfold PN.wv at e2
  injection e1 with q1 q2 q3
  injection e2 with q4 q5 q6
  refine ⟨?_, ?_⟩
  · rw [q1]; exact row_grs r1
  · rw [q4]; exact row_wrds r2
theorem put_rowN {W W' : World} {a a' : Option Addr} {c B : Nat} {l : List PN} {x : PN} (ho : OwnN W' B (.slice a' (putP l x).length c) (putP l x)) (hr : RowN W a l) (hx : x.At W) (hb : Below W.heap.size W W') : RowN W' a' (putP l x) := by
  obtain ⟨a1, c1, e1, -, -, r1⟩ := ho.slice pn_len
  injection e1 with q1 q2 q3
  refine ⟨by rw [q1]; exact r1, fun y hy => ?_⟩
  rcases put_sub hy with rfl | hy
  · exact hx.below hb
  · exact (hr.p y hy).below hb
structure PX (wr : World) (nd : Nat) (d : PN) (yp : Addr) (i : Nat) (pp : PPg) (W : World) : Prop where
  nd : BlkL nd d.cs W
  pr : CellsAt W (yp.add i) (pgcl pp)
theorem PX.then {wr : World} {nd : Nat} {d : PN} {yp : Addr} {i : Nat} {pp : PPg} {W W' : World} (h : PX wr nd d yp i pp W) (k : Below W.heap.size W W') : PX wr nd d yp i pp W' := ⟨stab_blk _ _ _ _ h.nd k, h.pr.below k⟩
theorem PX.lab {wr : World} {nd : Nat} {d : PN} {yp : Addr} {i : Nat} {pp : PPg} {W : World} (h : PX wr nd d yp i pp W) : W.rangeAt nd 2 (lab4 d.n.label) := fun j v hv => by
  have hj : j < 4 := (List.getElem?_eq_some_iff.1 hv).1
  have h1 := h.nd.1 (2 + j)
  match j, hj with
  | 0, _ => exact (h1 v hv).1
  | 1, _ => exact (h1 v hv).1
  | 2, _ => exact (h1 v hv).1
  | 3, _ => exact (h1 v hv).1
def PutR (R : List Nod) (w : World) (e : Ending) (w' : World) : Prop := ∃ (l' : List PN) (a' : Option Addr) (c' : Nat), e = .returned (.slice a' l'.length c') ∧ RowN w' a' l' ∧ namesP l' = R ∧ Below w.heap.size w w'
set_option maxRecDepth 8000 in
set_option maxHeartbeats 16000000 in
theorem pput_any (j : Nat) (hj : j < 2) (a : Option Addr) (cap : Nat) (l : List PN) (pa : Option Addr) (pc : Nat) (ps : List PPg) (ma : Option Addr) (mc : Nat) (ms : List Int) (ra : Option Addr) (rc : Nat) (rs : List Rg) (hl : l.length ≤ 1000) (w : World) (h : RowN w a l) (hps : RowAt 1 pgcl w pa ps) (hpA : ∀ x ∈ ps, x.At w) (hms : RowAt 1 icell w ma ms) (hrsR : RowAt 4 rgcl w ra rs) :
    Calls Tryz.prog 24 #[.slice a l.length cap, .string (dirS j), .slice pa ps.length pc, .slice ma ms.length mc, .slice ra rs.length rc] w (PutR (putD (namesP l) j (ps.map (·.is)) ms rs) w) := by
  have hundN := Tryz.underlying36
  have hundL := Tryz.underlying30
  have hundG := Tryz.underlying92
  have hundR := Tryz.underlying33
  have hszN : (Tryz.prog.info? 36).map (·.size) = some 16 := by kernel_rfl
  have kf := rfindT_any a cap l (dirS j) (by omega) w h
  have hfn := find_names l (dirS j)
  obtain ⟨n, hn⟩ : ∃ n, l.length = n := ⟨_, rfl⟩
  obtain ⟨np, hnp⟩ : ∃ n, ps.length = n := ⟨_, rfl⟩
  obtain ⟨nm, hnm⟩ : ∃ n, ms.length = n := ⟨_, rfl⟩
  obtain ⟨nr, hnr⟩ : ∃ n, rs.length = n := ⟨_, rfl⟩
  rw [hn] at kf hl ⊢
  rw [hnp, hnm, hnr]
  replace hn : Aside (l.length = n) := hn
  replace hnp : Aside (ps.length = np) := hnp
  replace hnm : Aside (ms.length = nm) := hnm
  replace hnr : Aside (rs.length = nr) := hnr
  obtain ⟨R, hR⟩ : ∃ R, putD (namesP l) j (ps.map (·.is)) ms rs = R := ⟨_, rfl⟩
  rw [hR]
  unfold putD at hR
  rw [hfn] at hR
  obtain ⟨o, ho⟩ : ∃ o, findP l (dirS j) = o := ⟨_, rfl⟩
  rw [ho] at kf hR
  replace hR : Aside _ := hR
  obtain ⟨D, hD⟩ : ∃ D, dirS j = D := ⟨_, rfl⟩
  rw [hD] at kf ⊢
  replace hD : Aside (dirS j = D) := hD
  clear ho hfn
  obtain ⟨d, hd⟩ : ∃ d, o.getD zeroP = d := ⟨_, rfl⟩
  have hfc : foundCs o = d.cs := by unfold foundCs; rw [hd]
  rw [hfc] at kf
  clear hfc
  replace hd : Aside _ := hd
  go_enter Tryz.func24, Tryz.ntmps24
  go_wp2_with fail
  refine kf.mono ?_
  rintro e W1 ⟨rfl, hb1⟩
  have hszd : (Tryz.prog.info? 36).map (·.size) = some d.cs.length := by rw [pn_len]; exact hszN
  have hone := pn_one d
  obtain ⟨W2, hW2, hth2, hnd, hb2⟩ := put_new W1 ZNP 36 d.cs (by rw [pn_len]; rfl) (by rw [pn_len]; decide)
  have hB2 := Below.then hb1 hb2
  have hdir : W2.cell? ⟨W1.heap.size, 1, none⟩ = some (.bool d.n.dir) := (hnd.1 1 _ rfl).1
  clear kf hb1 hb2
  go_upto_region 2 with (first | (refine wpList_store_row rfl _ _ rfl W1.heap.size rfl d.cs rfl hth2 hszd hone hW2 ?_) | fail)
  clear hth2 hW2
  generalize W1.heap.size = nd at *
  cases o with
  | none =>
    go_wp2_with fail
    go_ret
    exact ⟨l, a, cap, by rw [hn.out]; rfl, h.below hB2, hR.out, hB2⟩
  | some d1 =>
    obtain rfl : d1 = d := hd.out
    clear hd
    simp only [Option.isSome_some]
    cases hdd : d1.n.dir
    · rw [hdd] at hdir
      go_wp2_with fail
      go_ret
      exact ⟨l, a, cap, by rw [hn.out]; rfl, h.below hB2, by rw [← hR.out]; show namesP l = (if d1.n.dir = true then _ else _); rw [if_neg (by rw [hdd]; decide)], hB2⟩
    rw [hdd] at hdir
    have kw := fun (k : Int) W => w17_any k 8 (by decide) (by decide) W
    have kput := fun (W : World) a1 c1 l1 x3 hll r => rputT_any a1 c1 l1 x3 hll W r
    clear hone hszd
    go_upto_region 4 with fail
    clear hdir
    go_wp2_with fail
    go_loopw [0, 13] (fun t0 t13 wr => ∃ (i : Nat) (l1 : List PN) (a1 : Option Addr) (c1 : Nat), i ≤ np ∧ i ≤ 5 ∧ t13 = .int .i64 (i : Int) ∧ t0 = .slice a1 l1.length c1 ∧ RowN wr a1 l1 ∧ namesP l1 = putsX j d1.n.label (ps.map (·.is)) ms rs i (namesP l) ∧ l1.length ≤ n + i ∧ BlkL nd d1.cs wr ∧ Below w.heap.size w wr) (fun _ t13 _ => 5 - (Go.RowKit.intOf t13).toNat)
    case atStart => exact ⟨0, l, a, cap, by omega, by omega, rfl, by rw [hn.out], h.below hB2, rfl, by rw [hn.out]; exact Nat.le_refl _, hnd, hB2⟩
    case round =>
      clear hnd hB2
      obtain ⟨i, l1, a1, c1, hi1, hi5, rfl, rfl, hrow, hl1, hll1, hnd, hBr⟩ := hrel
      by_cases hgo : i < np ∧ i < 5
      rotate_left
      · have hm : i = min np 5 := by omega
        have hfin : namesP l1 = R := by
          rw [← hR.out]
          show namesP l1 = (if d1.n.dir = true then putsX j d1.n.label (ps.map (·.is)) ms rs (min (ps.map (·.is)).length 5) (namesP l) else namesP l)
          rw [if_pos hdd, List.length_map, hnp.out, ← hm]
          exact hl1
        clear hm
        by_cases q : i < np
        · have i1 : (i : Int) < (np : Int) := by omega
          have i2 : ¬ (i : Int) < 5 := by omega
          go_wp2_with fail
          go_ret
          exact ⟨l1, a1, c1, rfl, hrow, hfin, hBr⟩
        · have i1 : ¬ (i : Int) < (np : Int) := by omega
          go_wp2_with fail
          go_ret
          exact ⟨l1, a1, c1, rfl, hrow, hfin, hBr⟩
      replace hl1 : Aside _ := hl1
      have hll : l1.length ≤ 100000 := by omega
      obtain ⟨pp, hpp⟩ : ∃ pp, ps[i]? = some pp := ⟨_, List.getElem?_eq_getElem (by rw [hnp.out]; exact hgo.1)⟩
      obtain ⟨hpA', hpl⟩ := hpA pp (List.mem_of_getElem? hpp)
      have hpin : Aside ((ps.map (·.is)).getD i [] = pp.is) := by
        show _ = _
        rw [List.getD_eq_getElem?_getD, List.getElem?_map, hpp]
        rfl
      obtain ⟨yp, rfl, -⟩ := hps i pp hpp
      have hpr := (hps.below pg_len1 hBr).at pg_len1 hpp
      rw [Nat.mul_one] at hpr
      have i1 : (i : Int) < (np : Int) := by omega
      have i2 : (i : Int) < 5 := by omega
      have i3 : ¬ (i : Int) < 0 := by omega
      have hu8 : IntKind.u8.wrap (48 + (i : Int)) = 48 + (i : Int) := by rw [IntKind.wrap_u8]; omega
      have hu64 : IntKind.i64.wrap (48 + (i : Int)) = 48 + (i : Int) := by rw [IntKind.wrap_i64]; omega
      have kwd := fun (W : World) r => pwords_any pp.a pp.c pp.is hpl W r
      have hbd := nd_build
      have hDz : D.size = 3 := by rw [← hD.out]; rfl
      have hcz : (chr (48 + i)).size = 1 := rfl
      have hsl : (Tryz.prog.info? 30).map (·.size) = some (lab4 d1.n.label).length := by kernel_rfl
      have hsg : (Tryz.prog.info? 92).map (·.size) = some (pgcl pp).length := by kernel_rfl
      have hsr : (Tryz.prog.info? 33).map (·.size) = some 4 := by kernel_rfl
      have hpA2 := hpA'
      go_upto_region 7 with fail
      have hS00 : PX wr nd d1 yp i pp wr := ⟨hnd, hpr⟩
      have hdr : Below wr.heap.size wr wr.drew := (Below.refl _ _).drew
      have hS : PX wr nd d1 yp i pp wr.drew := hS00.then hdr
      have hBw : Below wr.heap.size wr wr.drew := hdr
      clear hdr hpr
      go_cut [14] from 39 to 58 (fun s14 wc => ∃ (gN : Nat) (x0 : PN), s14 = .pointer (some ⟨gN, 0, none⟩) ∧ Below wr.heap.size wr wc ∧ BlkL gN x0.cs wc ∧ wr.heap.size ≤ gN ∧ x0.n = segX (D ++ slpS ++ dgS i) d1.n.label 7 ⟨4, 4, 4, 0⟩ (wordsN pp.is) ∧ OwnR 119 2 gcl wc wr.heap.size x0.av x0.n.acl ∧ OwnR 2 1 wcl wc wr.heap.size x0.wv x0.n.words ∧ x0.av.ownBlock ≠ some gN ∧ x0.wv.ownBlock ≠ some gN ∧ ∀ g, x0.wv.ownBlock = some g → x0.av.ownBlock ≠ some g)
      · skip
        refine wp_region_held_drew (S := (fun W => PX wr nd d1 yp i pp W)) (by kernel_rfl) (by exact hS) ?_
        intro hHeld
        generalize wr.drew = w0 at *
        refine tkA 0 ?_
        refine tkA 1 ?_
        refine tkA 2 ?_
        refine tkA 3 ?_
        refine tkA 4 ?_
        refine tkA 8 ?_
        refine tkB 9 (y := yieldsIf_load_mid (by rfl) 30 _ rfl nd 2 rfl (lab4 d1.n.label) _ (fun W s => s.lab) hundL rfl hsl) (h := ?_)
        refine tkA 10 ?_
        refine tkA 12 ?_
        refine tkA 13 ?_
        refine tkA 14 ?_
        refine tkA 15 ?_
        refine tkB 16 (y := yields_at (by rfl) _ rfl (yp.add i) rfl (pgcl pp) (fun _ s => s.pr) hundG rfl hsg) (h := ?_)
        refine tkR (rs := [5, 11, 17, 19]) ?_
        refine tkC (fun K hK => ?_) ?_
        · go_simp
          have hb := alloc_below w0 (.cells #[.int .u8 (48 + (i : Int))] 5)
          refine hK.out _ _ (hS.then hb) ?_
          clear hHeld hK
          intro hHeld
          have hch : ChrAt (w0.alloc (.cells #[.int .u8 (48 + (i : Int))] 5)) w0.heap.size (48 + i) := chr_made2 w0 i (by omega)
          replace hBw := Below.then hBw hb
          replace hS := hS.then hb
          generalize w0.alloc (.cells #[.int .u8 (48 + (i : Int))] 5) = w1 at *
          generalize w0.heap.size = gC at *
          clear hb
          refine wpAnyH_strong (S' := fun W => PX wr nd d1 yp i pp W ∧ ChrAt W gC (48 + i)) (fun _ h => h.1) ?_
          replace hHeld : PX wr nd d1 yp i pp w1 ∧ ChrAt w1 gC (48 + i) := ⟨hS, hch⟩
          (try simp only [Act.put, zsA, zsB, zsC])
          refine tkB 6 (y := yields_conv (by rfl) _ rfl rfl (fun _ s => s.2.conv)) (h := ?_)
          refine tkA 7 ?_
          refine tkR (rs := [11, 17, 19]) ?_
          refine tkC (fun K hK => ?_) ?_
          · skip
            have hb := alloc_below w1 (.cells (gcl ⟨starS, 7⟩).toArray 119)
            refine step_build1 gr_okT (by decide) rfl _ rfl (gcl ⟨starS, 7⟩) rfl rfl ?_
            (try simp only [Act.put, zsA, zsB, zsC])
            refine hK.out _ _ (⟨hS.then hb, hch.below hb⟩) ?_
            clear hHeld hK
            intro hHeld
            have hgr : OwnR 119 2 gcl (w1.alloc (.cells (gcl ⟨starS, 7⟩).toArray 119)) wr.heap.size (.slice (some ⟨w1.heap.size, 0, none⟩) 1 1) [⟨starS, 7⟩] := own_oneP gr_okT w1 hBw.size ⟨starS, 7⟩
            replace hBw := Below.then hBw hb
            replace hS := hS.then hb
            replace hch := hch.below hb
            generalize w1.alloc (.cells (gcl ⟨starS, 7⟩).toArray 119) = w2 at *
            generalize w1.heap.size = gA at *
            clear hb
            (try simp only [Act.put, zsA, zsB, zsC])
            refine tkR (rs := [17, 19]) ?_
            refine tkC (fun K hK => ?_) ?_
            · go_simp
              go_at_call 42
              refine (kwd w2 (hpA'.below in_okW.len (Below.then hBr hBw))).mono ?_
              rintro e w3 ⟨vw, rfl, hwo, hb⟩
              obtain ⟨va, vc, hvw, -, -, -⟩ := hwo.slice wd_okC.len
              subst hvw
              have hBw0 : wr.heap.size ≤ w2.heap.size := hBw.size
              have hneG : (Value.slice va (wordsN pp.is).length vc).ownBlock ≠ some gA := fun q => by have h9 := (hwo.lt q).1; have h8 : gA < w2.heap.size := (hgr.lt rfl).2; omega
              replace hBw := Below.then hBw hb
              replace hS := hS.then hb
              replace hch := hch.below hb
              replace hgr := hgr.below hb
              replace hwo : OwnR 2 1 wcl w3 wr.heap.size (Value.slice va (wordsN pp.is).length vc) (wordsN pp.is) := hwo.lower hBw0
              clear hb hBw0
              refine hK.out _ _ (⟨hS, hch⟩) ?_
              clear hHeld hK
              intro hHeld
              (try simp only [Act.put, zsA, zsB, zsC])
              refine tkA 18 ?_
              refine tkR (rs := [19]) ?_
              refine tkC (fun K hK => ?_) AllReadyH.nil
              have hb := alloc_below w3 (.cells ZNP 36)
              refine step_allocC (z := ZNP) rfl rfl (fun _ => rfl) ?_
              (try simp only [Act.put, zsA, zsB, zsC])
              refine hK.out _ _ (⟨hS.then hb, hch.below hb⟩) ?_
              clear hHeld hK
              intro hHeld
              have hz : BlkL w3.heap.size zeroP.cs (w3.alloc (.cells ZNP 36)) := blkl_alloc w3 ZNP 36
              have hwN : wr.heap.size ≤ w3.heap.size := hBw.size
              have hneA : (Value.slice (some ⟨gA, 0, none⟩) 1 1).ownBlock ≠ some w3.heap.size := fun q => by have h9 : gA = w3.heap.size := Option.some.inj q; have h8 : gA < w3.heap.size := (hgr.lt rfl).2; omega
              have hneW : (Value.slice va (wordsN pp.is).length vc).ownBlock ≠ some w3.heap.size := fun q => by have := (hwo.lt q).2; omega
              replace hBw := Below.then hBw hb
              replace hS := hS.then hb
              replace hch := hch.below hb
              replace hgr := hgr.below hb
              replace hwo := hwo.below hb
              generalize w3.alloc (.cells ZNP 36) = w4 at *
              generalize w3.heap.size = gN at *
              clear hb
              (try simp only [Act.put, zsA, zsB, zsC])
              refine tkR (rs := [20]) ?_
              refine tkC (fun K hK => ?_) AllReadyH.nil
              obtain ⟨x0, hx0⟩ : ∃ x0 : PN, x0 = ⟨segX (D ++ slpS ++ dgS i) d1.n.label 7 ⟨4, 4, 4, 0⟩ (wordsN pp.is), some ⟨gA, 0, none⟩, 1, va, vc⟩ := ⟨_, rfl⟩
              have hxl : x0.cs.length = 16 := pn_len x0
              have hxs : (Tryz.prog.info? 36).map (·.size) = some x0.cs.length := by rw [hxl]; exact hszN
              obtain ⟨V9, hV9, hth9, hgo, hb9⟩ := put_any hz (ds := x0.cs) (by rw [hxl]; rfl) (by rw [hxl]; decide)
              refine step_store_rowC rfl _ _ rfl gN rfl x0.cs (by rw [hx0]; rfl) hth9 hxs (pn_one x0) hV9 ?_
              (try simp only [Act.put, zsA, zsB, zsC])
              have hk9 : ∀ j, j ≠ gN → V9.heap[j]? = w4.heap[j]? := fun j hj => by rw [← hV9]; exact heap_setCells_other hj _ _ _
              replace hBw := hb9 _ _ hwN hBw
              replace hS := hS00.then hBw
              replace hch : ChrAt V9 gC (48 + i) := hch.kept (hk9 _ (fun q => chr_ne hch hz q)) (hb9 0 w4 (Nat.zero_le _) (Below.refl _ _)).size
              replace hgr : OwnR 119 2 gcl V9 wr.heap.size x0.av x0.n.acl := by rw [hx0]; exact hgr.keep fun j hj => hk9 j (fun q => hneA (by rw [hj, q]))
              replace hwo : OwnR 2 1 wcl V9 wr.heap.size x0.wv x0.n.words := by rw [hx0]; exact hwo.keep fun j hj => hk9 j (fun q => hneW (by rw [hj, q]))
              replace hneA : x0.av.ownBlock ≠ some gN := by rw [hx0]; exact hneA
              replace hneW : x0.wv.ownBlock ≠ some gN := by rw [hx0]; exact hneW
              replace hneG : ∀ g, x0.wv.ownBlock = some g → x0.av.ownBlock ≠ some g := by rw [hx0]; exact fun g h9 h8 => hneG (by have h7 : gA = g := Option.some.inj h8; rw [h7]; exact h9)
              replace hx0 : Aside (x0.n = segX (D ++ slpS ++ dgS i) d1.n.label 7 ⟨4, 4, 4, 0⟩ (wordsN pp.is)) := by rw [hx0]; exact rfl
              clear hk9 hth9 hb9 hV9 hxs hxl hz
              refine hK.out _ _ (⟨hS, hch⟩) ?_
              clear hHeld hK
              intro hHeld
              (try simp only [Act.put, zsA, zsB, zsC])
              refine wpAnyH_done (by kernel_rfl) ?_ _
              clear hHeld
              go_wp2_with fail
              go_meet
              exact ⟨gN, x0, rfl, hBw, hgo, hwN, hx0.out, hgr, hwo, hneA, hneW, hneG⟩
            refine tkC (fun K hK => ?_) AllReadyH.nil
            have hb := alloc_below w2 (.cells ZNP 36)
            refine step_allocC (z := ZNP) rfl rfl (fun _ => rfl) ?_
            (try simp only [Act.put, zsA, zsB, zsC])
            refine hK.out _ _ (⟨hS.then hb, hch.below hb⟩) ?_
            clear hHeld hK
            intro hHeld
            have hz : BlkL w2.heap.size zeroP.cs (w2.alloc (.cells ZNP 36)) := blkl_alloc w2 ZNP 36
            have hwN : wr.heap.size ≤ w2.heap.size := hBw.size
            have hneA : (Value.slice (some ⟨gA, 0, none⟩) 1 1).ownBlock ≠ some w2.heap.size := fun q => by have h9 : gA = w2.heap.size := Option.some.inj q; have h8 : gA < w2.heap.size := (hgr.lt rfl).2; omega
            replace hBw := Below.then hBw hb
            replace hS := hS.then hb
            replace hch := hch.below hb
            replace hgr := hgr.below hb
            generalize w2.alloc (.cells ZNP 36) = w3 at *
            generalize w2.heap.size = gN at *
            clear hb
            (try simp only [Act.put, zsA, zsB, zsC])
            refine tkR (rs := [17]) ?_
            refine tkC (fun K hK => ?_) AllReadyH.nil
            go_simp
            go_at_call 42
            refine (kwd w3 (hpA'.below in_okW.len (Below.then hBr hBw))).mono ?_
            rintro e w4 ⟨vw, rfl, hwo, hb⟩
            obtain ⟨va, vc, hvw, -, -, -⟩ := hwo.slice wd_okC.len
            subst hvw
            have hBw0 : wr.heap.size ≤ w3.heap.size := hBw.size
            have hneW : (Value.slice va (wordsN pp.is).length vc).ownBlock ≠ some gN := fun q => by have h9 := (hwo.lt q).1; have h8 := hz.2; omega
            have hneG : (Value.slice va (wordsN pp.is).length vc).ownBlock ≠ some gA := fun q => by have h9 := (hwo.lt q).1; have h8 : gA < w3.heap.size := (hgr.lt rfl).2; omega
            replace hBw := Below.then hBw hb
            replace hS := hS.then hb
            replace hch := hch.below hb
            replace hgr := hgr.below hb
            replace hz := stab_blk _ _ _ _ hz hb
            replace hwo : OwnR 2 1 wcl w4 wr.heap.size (Value.slice va (wordsN pp.is).length vc) (wordsN pp.is) := hwo.lower hBw0
            clear hb hBw0
            refine hK.out _ _ (⟨hS, hch⟩) ?_
            clear hHeld hK
            intro hHeld
            (try simp only [Act.put, zsA, zsB, zsC])
            refine tkA 18 ?_
            refine tkR (rs := [20]) ?_
            refine tkC (fun K hK => ?_) AllReadyH.nil
            obtain ⟨x0, hx0⟩ : ∃ x0 : PN, x0 = ⟨segX (D ++ slpS ++ dgS i) d1.n.label 7 ⟨4, 4, 4, 0⟩ (wordsN pp.is), some ⟨gA, 0, none⟩, 1, va, vc⟩ := ⟨_, rfl⟩
            have hxl : x0.cs.length = 16 := pn_len x0
            have hxs : (Tryz.prog.info? 36).map (·.size) = some x0.cs.length := by rw [hxl]; exact hszN
            obtain ⟨V9, hV9, hth9, hgo, hb9⟩ := put_any hz (ds := x0.cs) (by rw [hxl]; rfl) (by rw [hxl]; decide)
            refine step_store_rowC rfl _ _ rfl gN rfl x0.cs (by rw [hx0]; rfl) hth9 hxs (pn_one x0) hV9 ?_
            (try simp only [Act.put, zsA, zsB, zsC])
            have hk9 : ∀ j, j ≠ gN → V9.heap[j]? = w4.heap[j]? := fun j hj => by rw [← hV9]; exact heap_setCells_other hj _ _ _
            replace hBw := hb9 _ _ hwN hBw
            replace hS := hS00.then hBw
            replace hch : ChrAt V9 gC (48 + i) := hch.kept (hk9 _ (fun q => chr_ne hch hz q)) (hb9 0 w4 (Nat.zero_le _) (Below.refl _ _)).size
            replace hgr : OwnR 119 2 gcl V9 wr.heap.size x0.av x0.n.acl := by rw [hx0]; exact hgr.keep fun j hj => hk9 j (fun q => hneA (by rw [hj, q]))
            replace hwo : OwnR 2 1 wcl V9 wr.heap.size x0.wv x0.n.words := by rw [hx0]; exact hwo.keep fun j hj => hk9 j (fun q => hneW (by rw [hj, q]))
            replace hneA : x0.av.ownBlock ≠ some gN := by rw [hx0]; exact hneA
            replace hneW : x0.wv.ownBlock ≠ some gN := by rw [hx0]; exact hneW
            replace hneG : ∀ g, x0.wv.ownBlock = some g → x0.av.ownBlock ≠ some g := by rw [hx0]; exact fun g h9 h8 => hneG (by have h7 : gA = g := Option.some.inj h8; rw [h7]; exact h9)
            replace hx0 : Aside (x0.n = segX (D ++ slpS ++ dgS i) d1.n.label 7 ⟨4, 4, 4, 0⟩ (wordsN pp.is)) := by rw [hx0]; exact rfl
            clear hk9 hth9 hb9 hV9 hxs hxl hz
            refine hK.out _ _ (⟨hS, hch⟩) ?_
            clear hHeld hK
            intro hHeld
            (try simp only [Act.put, zsA, zsB, zsC])
            refine wpAnyH_done (by kernel_rfl) ?_ _
            clear hHeld
            go_wp2_with fail
            go_meet
            exact ⟨gN, x0, rfl, hBw, hgo, hwN, hx0.out, hgr, hwo, hneA, hneW, hneG⟩
          refine tkC (fun K hK => ?_) ?_
          · go_simp
            go_at_call 42
            refine (kwd w1 (hpA'.below in_okW.len (Below.then hBr hBw))).mono ?_
            rintro e w2 ⟨vw, rfl, hwo, hb⟩
            obtain ⟨va, vc, hvw, -, -, -⟩ := hwo.slice wd_okC.len
            subst hvw
            have hBw0 : wr.heap.size ≤ w1.heap.size := hBw.size
            replace hBw := Below.then hBw hb
            replace hS := hS.then hb
            replace hch := hch.below hb
            replace hwo : OwnR 2 1 wcl w2 wr.heap.size (Value.slice va (wordsN pp.is).length vc) (wordsN pp.is) := hwo.lower hBw0
            clear hb hBw0
            refine hK.out _ _ (⟨hS, hch⟩) ?_
            clear hHeld hK
            intro hHeld
            (try simp only [Act.put, zsA, zsB, zsC])
            refine tkR (rs := [11, 19]) ?_
            refine tkC (fun K hK => ?_) ?_
            · skip
              have hb := alloc_below w2 (.cells (gcl ⟨starS, 7⟩).toArray 119)
              refine step_build1 gr_okT (by decide) rfl _ rfl (gcl ⟨starS, 7⟩) rfl rfl ?_
              (try simp only [Act.put, zsA, zsB, zsC])
              refine hK.out _ _ (⟨hS.then hb, hch.below hb⟩) ?_
              clear hHeld hK
              intro hHeld
              have hgr : OwnR 119 2 gcl (w2.alloc (.cells (gcl ⟨starS, 7⟩).toArray 119)) wr.heap.size (.slice (some ⟨w2.heap.size, 0, none⟩) 1 1) [⟨starS, 7⟩] := own_oneP gr_okT w2 hBw.size ⟨starS, 7⟩
              have hneG : (Value.slice va (wordsN pp.is).length vc).ownBlock ≠ some w2.heap.size := fun q => by have := (hwo.lt q).2; omega
              replace hBw := Below.then hBw hb
              replace hS := hS.then hb
              replace hch := hch.below hb
              replace hwo := hwo.below hb
              generalize w2.alloc (.cells (gcl ⟨starS, 7⟩).toArray 119) = w3 at *
              generalize w2.heap.size = gA at *
              clear hb
              (try simp only [Act.put, zsA, zsB, zsC])
              refine tkA 18 ?_
              refine tkR (rs := [19]) ?_
              refine tkC (fun K hK => ?_) AllReadyH.nil
              have hb := alloc_below w3 (.cells ZNP 36)
              refine step_allocC (z := ZNP) rfl rfl (fun _ => rfl) ?_
              (try simp only [Act.put, zsA, zsB, zsC])
              refine hK.out _ _ (⟨hS.then hb, hch.below hb⟩) ?_
              clear hHeld hK
              intro hHeld
              have hz : BlkL w3.heap.size zeroP.cs (w3.alloc (.cells ZNP 36)) := blkl_alloc w3 ZNP 36
              have hwN : wr.heap.size ≤ w3.heap.size := hBw.size
              have hneA : (Value.slice (some ⟨gA, 0, none⟩) 1 1).ownBlock ≠ some w3.heap.size := fun q => by have h9 : gA = w3.heap.size := Option.some.inj q; have h8 : gA < w3.heap.size := (hgr.lt rfl).2; omega
              have hneW : (Value.slice va (wordsN pp.is).length vc).ownBlock ≠ some w3.heap.size := fun q => by have := (hwo.lt q).2; omega
              replace hBw := Below.then hBw hb
              replace hS := hS.then hb
              replace hch := hch.below hb
              replace hgr := hgr.below hb
              replace hwo := hwo.below hb
              generalize w3.alloc (.cells ZNP 36) = w4 at *
              generalize w3.heap.size = gN at *
              clear hb
              (try simp only [Act.put, zsA, zsB, zsC])
              refine tkR (rs := [20]) ?_
              refine tkC (fun K hK => ?_) AllReadyH.nil
              obtain ⟨x0, hx0⟩ : ∃ x0 : PN, x0 = ⟨segX (D ++ slpS ++ dgS i) d1.n.label 7 ⟨4, 4, 4, 0⟩ (wordsN pp.is), some ⟨gA, 0, none⟩, 1, va, vc⟩ := ⟨_, rfl⟩
              have hxl : x0.cs.length = 16 := pn_len x0
              have hxs : (Tryz.prog.info? 36).map (·.size) = some x0.cs.length := by rw [hxl]; exact hszN
              obtain ⟨V9, hV9, hth9, hgo, hb9⟩ := put_any hz (ds := x0.cs) (by rw [hxl]; rfl) (by rw [hxl]; decide)
              refine step_store_rowC rfl _ _ rfl gN rfl x0.cs (by rw [hx0]; rfl) hth9 hxs (pn_one x0) hV9 ?_
              (try simp only [Act.put, zsA, zsB, zsC])
              have hk9 : ∀ j, j ≠ gN → V9.heap[j]? = w4.heap[j]? := fun j hj => by rw [← hV9]; exact heap_setCells_other hj _ _ _
              replace hBw := hb9 _ _ hwN hBw
              replace hS := hS00.then hBw
              replace hch : ChrAt V9 gC (48 + i) := hch.kept (hk9 _ (fun q => chr_ne hch hz q)) (hb9 0 w4 (Nat.zero_le _) (Below.refl _ _)).size
              replace hgr : OwnR 119 2 gcl V9 wr.heap.size x0.av x0.n.acl := by rw [hx0]; exact hgr.keep fun j hj => hk9 j (fun q => hneA (by rw [hj, q]))
              replace hwo : OwnR 2 1 wcl V9 wr.heap.size x0.wv x0.n.words := by rw [hx0]; exact hwo.keep fun j hj => hk9 j (fun q => hneW (by rw [hj, q]))
              replace hneA : x0.av.ownBlock ≠ some gN := by rw [hx0]; exact hneA
              replace hneW : x0.wv.ownBlock ≠ some gN := by rw [hx0]; exact hneW
              replace hneG : ∀ g, x0.wv.ownBlock = some g → x0.av.ownBlock ≠ some g := by rw [hx0]; exact fun g h9 h8 => hneG (by have h7 : gA = g := Option.some.inj h8; rw [h7]; exact h9)
              replace hx0 : Aside (x0.n = segX (D ++ slpS ++ dgS i) d1.n.label 7 ⟨4, 4, 4, 0⟩ (wordsN pp.is)) := by rw [hx0]; exact rfl
              clear hk9 hth9 hb9 hV9 hxs hxl hz
              refine hK.out _ _ (⟨hS, hch⟩) ?_
              clear hHeld hK
              intro hHeld
              (try simp only [Act.put, zsA, zsB, zsC])
              refine wpAnyH_done (by kernel_rfl) ?_ _
              clear hHeld
              go_wp2_with fail
              go_meet
              exact ⟨gN, x0, rfl, hBw, hgo, hwN, hx0.out, hgr, hwo, hneA, hneW, hneG⟩
            refine tkC (fun K hK => ?_) AllReadyH.nil
            have hb := alloc_below w2 (.cells ZNP 36)
            refine step_allocC (z := ZNP) rfl rfl (fun _ => rfl) ?_
            (try simp only [Act.put, zsA, zsB, zsC])
            refine hK.out _ _ (⟨hS.then hb, hch.below hb⟩) ?_
            clear hHeld hK
            intro hHeld
            have hz : BlkL w2.heap.size zeroP.cs (w2.alloc (.cells ZNP 36)) := blkl_alloc w2 ZNP 36
            have hwN : wr.heap.size ≤ w2.heap.size := hBw.size
            have hneW : (Value.slice va (wordsN pp.is).length vc).ownBlock ≠ some w2.heap.size := fun q => by have := (hwo.lt q).2; omega
            replace hBw := Below.then hBw hb
            replace hS := hS.then hb
            replace hch := hch.below hb
            replace hwo := hwo.below hb
            generalize w2.alloc (.cells ZNP 36) = w3 at *
            generalize w2.heap.size = gN at *
            clear hb
            (try simp only [Act.put, zsA, zsB, zsC])
            refine tkR (rs := [11]) ?_
            refine tkC (fun K hK => ?_) AllReadyH.nil
            have hb := alloc_below w3 (.cells (gcl ⟨starS, 7⟩).toArray 119)
            refine step_build1 gr_okT (by decide) rfl _ rfl (gcl ⟨starS, 7⟩) rfl rfl ?_
            (try simp only [Act.put, zsA, zsB, zsC])
            refine hK.out _ _ (⟨hS.then hb, hch.below hb⟩) ?_
            clear hHeld hK
            intro hHeld
            have hgr : OwnR 119 2 gcl (w3.alloc (.cells (gcl ⟨starS, 7⟩).toArray 119)) wr.heap.size (.slice (some ⟨w3.heap.size, 0, none⟩) 1 1) [⟨starS, 7⟩] := own_oneP gr_okT w3 hBw.size ⟨starS, 7⟩
            have hneA : (Value.slice (some ⟨w3.heap.size, 0, none⟩) 1 1).ownBlock ≠ some gN := fun q => by have h9 : w3.heap.size = gN := Option.some.inj q; have h8 := hz.2; omega
            have hneG : (Value.slice va (wordsN pp.is).length vc).ownBlock ≠ some w3.heap.size := fun q => by have := (hwo.lt q).2; omega
            replace hBw := Below.then hBw hb
            replace hS := hS.then hb
            replace hch := hch.below hb
            replace hwo := hwo.below hb
            replace hz := stab_blk _ _ _ _ hz hb
            generalize w3.alloc (.cells (gcl ⟨starS, 7⟩).toArray 119) = w4 at *
            generalize w3.heap.size = gA at *
            clear hb
            (try simp only [Act.put, zsA, zsB, zsC])
            refine tkA 18 ?_
            refine tkR (rs := [20]) ?_
            refine tkC (fun K hK => ?_) AllReadyH.nil
            obtain ⟨x0, hx0⟩ : ∃ x0 : PN, x0 = ⟨segX (D ++ slpS ++ dgS i) d1.n.label 7 ⟨4, 4, 4, 0⟩ (wordsN pp.is), some ⟨gA, 0, none⟩, 1, va, vc⟩ := ⟨_, rfl⟩
            have hxl : x0.cs.length = 16 := pn_len x0
            have hxs : (Tryz.prog.info? 36).map (·.size) = some x0.cs.length := by rw [hxl]; exact hszN
            obtain ⟨V9, hV9, hth9, hgo, hb9⟩ := put_any hz (ds := x0.cs) (by rw [hxl]; rfl) (by rw [hxl]; decide)
            refine step_store_rowC rfl _ _ rfl gN rfl x0.cs (by rw [hx0]; rfl) hth9 hxs (pn_one x0) hV9 ?_
            (try simp only [Act.put, zsA, zsB, zsC])
            have hk9 : ∀ j, j ≠ gN → V9.heap[j]? = w4.heap[j]? := fun j hj => by rw [← hV9]; exact heap_setCells_other hj _ _ _
            replace hBw := hb9 _ _ hwN hBw
            replace hS := hS00.then hBw
            replace hch : ChrAt V9 gC (48 + i) := hch.kept (hk9 _ (fun q => chr_ne hch hz q)) (hb9 0 w4 (Nat.zero_le _) (Below.refl _ _)).size
            replace hgr : OwnR 119 2 gcl V9 wr.heap.size x0.av x0.n.acl := by rw [hx0]; exact hgr.keep fun j hj => hk9 j (fun q => hneA (by rw [hj, q]))
            replace hwo : OwnR 2 1 wcl V9 wr.heap.size x0.wv x0.n.words := by rw [hx0]; exact hwo.keep fun j hj => hk9 j (fun q => hneW (by rw [hj, q]))
            replace hneA : x0.av.ownBlock ≠ some gN := by rw [hx0]; exact hneA
            replace hneW : x0.wv.ownBlock ≠ some gN := by rw [hx0]; exact hneW
            replace hneG : ∀ g, x0.wv.ownBlock = some g → x0.av.ownBlock ≠ some g := by rw [hx0]; exact fun g h9 h8 => hneG (by have h7 : gA = g := Option.some.inj h8; rw [h7]; exact h9)
            replace hx0 : Aside (x0.n = segX (D ++ slpS ++ dgS i) d1.n.label 7 ⟨4, 4, 4, 0⟩ (wordsN pp.is)) := by rw [hx0]; exact rfl
            clear hk9 hth9 hb9 hV9 hxs hxl hz
            refine hK.out _ _ (⟨hS, hch⟩) ?_
            clear hHeld hK
            intro hHeld
            (try simp only [Act.put, zsA, zsB, zsC])
            refine wpAnyH_done (by kernel_rfl) ?_ _
            clear hHeld
            go_wp2_with fail
            go_meet
            exact ⟨gN, x0, rfl, hBw, hgo, hwN, hx0.out, hgr, hwo, hneA, hneW, hneG⟩
          refine tkC (fun K hK => ?_) AllReadyH.nil
          have hb := alloc_below w1 (.cells ZNP 36)
          refine step_allocC (z := ZNP) rfl rfl (fun _ => rfl) ?_
          (try simp only [Act.put, zsA, zsB, zsC])
          refine hK.out _ _ (⟨hS.then hb, hch.below hb⟩) ?_
          clear hHeld hK
          intro hHeld
          have hz : BlkL w1.heap.size zeroP.cs (w1.alloc (.cells ZNP 36)) := blkl_alloc w1 ZNP 36
          have hwN : wr.heap.size ≤ w1.heap.size := hBw.size
          replace hBw := Below.then hBw hb
          replace hS := hS.then hb
          replace hch := hch.below hb
          generalize w1.alloc (.cells ZNP 36) = w2 at *
          generalize w1.heap.size = gN at *
          clear hb
          (try simp only [Act.put, zsA, zsB, zsC])
          refine tkR (rs := [11, 17]) ?_
          refine tkC (fun K hK => ?_) ?_
          · skip
            have hb := alloc_below w2 (.cells (gcl ⟨starS, 7⟩).toArray 119)
            refine step_build1 gr_okT (by decide) rfl _ rfl (gcl ⟨starS, 7⟩) rfl rfl ?_
            (try simp only [Act.put, zsA, zsB, zsC])
            refine hK.out _ _ (⟨hS.then hb, hch.below hb⟩) ?_
            clear hHeld hK
            intro hHeld
            have hgr : OwnR 119 2 gcl (w2.alloc (.cells (gcl ⟨starS, 7⟩).toArray 119)) wr.heap.size (.slice (some ⟨w2.heap.size, 0, none⟩) 1 1) [⟨starS, 7⟩] := own_oneP gr_okT w2 hBw.size ⟨starS, 7⟩
            have hneA : (Value.slice (some ⟨w2.heap.size, 0, none⟩) 1 1).ownBlock ≠ some gN := fun q => by have h9 : w2.heap.size = gN := Option.some.inj q; have h8 := hz.2; omega
            replace hBw := Below.then hBw hb
            replace hS := hS.then hb
            replace hch := hch.below hb
            replace hz := stab_blk _ _ _ _ hz hb
            generalize w2.alloc (.cells (gcl ⟨starS, 7⟩).toArray 119) = w3 at *
            generalize w2.heap.size = gA at *
            clear hb
            (try simp only [Act.put, zsA, zsB, zsC])
            refine tkR (rs := [17]) ?_
            refine tkC (fun K hK => ?_) AllReadyH.nil
            go_simp
            go_at_call 42
            refine (kwd w3 (hpA'.below in_okW.len (Below.then hBr hBw))).mono ?_
            rintro e w4 ⟨vw, rfl, hwo, hb⟩
            obtain ⟨va, vc, hvw, -, -, -⟩ := hwo.slice wd_okC.len
            subst hvw
            have hBw0 : wr.heap.size ≤ w3.heap.size := hBw.size
            have hneW : (Value.slice va (wordsN pp.is).length vc).ownBlock ≠ some gN := fun q => by have h9 := (hwo.lt q).1; have h8 := hz.2; omega
            have hneG : (Value.slice va (wordsN pp.is).length vc).ownBlock ≠ some gA := fun q => by have h9 := (hwo.lt q).1; have h8 : gA < w3.heap.size := (hgr.lt rfl).2; omega
            replace hBw := Below.then hBw hb
            replace hS := hS.then hb
            replace hch := hch.below hb
            replace hgr := hgr.below hb
            replace hz := stab_blk _ _ _ _ hz hb
            replace hwo : OwnR 2 1 wcl w4 wr.heap.size (Value.slice va (wordsN pp.is).length vc) (wordsN pp.is) := hwo.lower hBw0
            clear hb hBw0
            refine hK.out _ _ (⟨hS, hch⟩) ?_
            clear hHeld hK
            intro hHeld
            (try simp only [Act.put, zsA, zsB, zsC])
            refine tkA 18 ?_
            refine tkR (rs := [20]) ?_
            refine tkC (fun K hK => ?_) AllReadyH.nil
            obtain ⟨x0, hx0⟩ : ∃ x0 : PN, x0 = ⟨segX (D ++ slpS ++ dgS i) d1.n.label 7 ⟨4, 4, 4, 0⟩ (wordsN pp.is), some ⟨gA, 0, none⟩, 1, va, vc⟩ := ⟨_, rfl⟩
            have hxl : x0.cs.length = 16 := pn_len x0
            have hxs : (Tryz.prog.info? 36).map (·.size) = some x0.cs.length := by rw [hxl]; exact hszN
            obtain ⟨V9, hV9, hth9, hgo, hb9⟩ := put_any hz (ds := x0.cs) (by rw [hxl]; rfl) (by rw [hxl]; decide)
            refine step_store_rowC rfl _ _ rfl gN rfl x0.cs (by rw [hx0]; rfl) hth9 hxs (pn_one x0) hV9 ?_
            (try simp only [Act.put, zsA, zsB, zsC])
            have hk9 : ∀ j, j ≠ gN → V9.heap[j]? = w4.heap[j]? := fun j hj => by rw [← hV9]; exact heap_setCells_other hj _ _ _
            replace hBw := hb9 _ _ hwN hBw
            replace hS := hS00.then hBw
            replace hch : ChrAt V9 gC (48 + i) := hch.kept (hk9 _ (fun q => chr_ne hch hz q)) (hb9 0 w4 (Nat.zero_le _) (Below.refl _ _)).size
            replace hgr : OwnR 119 2 gcl V9 wr.heap.size x0.av x0.n.acl := by rw [hx0]; exact hgr.keep fun j hj => hk9 j (fun q => hneA (by rw [hj, q]))
            replace hwo : OwnR 2 1 wcl V9 wr.heap.size x0.wv x0.n.words := by rw [hx0]; exact hwo.keep fun j hj => hk9 j (fun q => hneW (by rw [hj, q]))
            replace hneA : x0.av.ownBlock ≠ some gN := by rw [hx0]; exact hneA
            replace hneW : x0.wv.ownBlock ≠ some gN := by rw [hx0]; exact hneW
            replace hneG : ∀ g, x0.wv.ownBlock = some g → x0.av.ownBlock ≠ some g := by rw [hx0]; exact fun g h9 h8 => hneG (by have h7 : gA = g := Option.some.inj h8; rw [h7]; exact h9)
            replace hx0 : Aside (x0.n = segX (D ++ slpS ++ dgS i) d1.n.label 7 ⟨4, 4, 4, 0⟩ (wordsN pp.is)) := by rw [hx0]; exact rfl
            clear hk9 hth9 hb9 hV9 hxs hxl hz
            refine hK.out _ _ (⟨hS, hch⟩) ?_
            clear hHeld hK
            intro hHeld
            (try simp only [Act.put, zsA, zsB, zsC])
            refine wpAnyH_done (by kernel_rfl) ?_ _
            clear hHeld
            go_wp2_with fail
            go_meet
            exact ⟨gN, x0, rfl, hBw, hgo, hwN, hx0.out, hgr, hwo, hneA, hneW, hneG⟩
          refine tkC (fun K hK => ?_) AllReadyH.nil
          go_simp
          go_at_call 42
          refine (kwd w2 (hpA'.below in_okW.len (Below.then hBr hBw))).mono ?_
          rintro e w3 ⟨vw, rfl, hwo, hb⟩
          obtain ⟨va, vc, hvw, -, -, -⟩ := hwo.slice wd_okC.len
          subst hvw
          have hBw0 : wr.heap.size ≤ w2.heap.size := hBw.size
          have hneW : (Value.slice va (wordsN pp.is).length vc).ownBlock ≠ some gN := fun q => by have h9 := (hwo.lt q).1; have h8 := hz.2; omega
          replace hBw := Below.then hBw hb
          replace hS := hS.then hb
          replace hch := hch.below hb
          replace hz := stab_blk _ _ _ _ hz hb
          replace hwo : OwnR 2 1 wcl w3 wr.heap.size (Value.slice va (wordsN pp.is).length vc) (wordsN pp.is) := hwo.lower hBw0
          clear hb hBw0
          refine hK.out _ _ (⟨hS, hch⟩) ?_
          clear hHeld hK
          intro hHeld
          (try simp only [Act.put, zsA, zsB, zsC])
          refine tkR (rs := [11]) ?_
          refine tkC (fun K hK => ?_) AllReadyH.nil
          have hb := alloc_below w3 (.cells (gcl ⟨starS, 7⟩).toArray 119)
          refine step_build1 gr_okT (by decide) rfl _ rfl (gcl ⟨starS, 7⟩) rfl rfl ?_
          (try simp only [Act.put, zsA, zsB, zsC])
          refine hK.out _ _ (⟨hS.then hb, hch.below hb⟩) ?_
          clear hHeld hK
          intro hHeld
          have hgr : OwnR 119 2 gcl (w3.alloc (.cells (gcl ⟨starS, 7⟩).toArray 119)) wr.heap.size (.slice (some ⟨w3.heap.size, 0, none⟩) 1 1) [⟨starS, 7⟩] := own_oneP gr_okT w3 hBw.size ⟨starS, 7⟩
          have hneA : (Value.slice (some ⟨w3.heap.size, 0, none⟩) 1 1).ownBlock ≠ some gN := fun q => by have h9 : w3.heap.size = gN := Option.some.inj q; have h8 := hz.2; omega
          have hneG : (Value.slice va (wordsN pp.is).length vc).ownBlock ≠ some w3.heap.size := fun q => by have := (hwo.lt q).2; omega
          replace hBw := Below.then hBw hb
          replace hS := hS.then hb
          replace hch := hch.below hb
          replace hwo := hwo.below hb
          replace hz := stab_blk _ _ _ _ hz hb
          generalize w3.alloc (.cells (gcl ⟨starS, 7⟩).toArray 119) = w4 at *
          generalize w3.heap.size = gA at *
          clear hb
          (try simp only [Act.put, zsA, zsB, zsC])
          refine tkA 18 ?_
          refine tkR (rs := [20]) ?_
          refine tkC (fun K hK => ?_) AllReadyH.nil
          obtain ⟨x0, hx0⟩ : ∃ x0 : PN, x0 = ⟨segX (D ++ slpS ++ dgS i) d1.n.label 7 ⟨4, 4, 4, 0⟩ (wordsN pp.is), some ⟨gA, 0, none⟩, 1, va, vc⟩ := ⟨_, rfl⟩
          have hxl : x0.cs.length = 16 := pn_len x0
          have hxs : (Tryz.prog.info? 36).map (·.size) = some x0.cs.length := by rw [hxl]; exact hszN
          obtain ⟨V9, hV9, hth9, hgo, hb9⟩ := put_any hz (ds := x0.cs) (by rw [hxl]; rfl) (by rw [hxl]; decide)
          refine step_store_rowC rfl _ _ rfl gN rfl x0.cs (by rw [hx0]; rfl) hth9 hxs (pn_one x0) hV9 ?_
          (try simp only [Act.put, zsA, zsB, zsC])
          have hk9 : ∀ j, j ≠ gN → V9.heap[j]? = w4.heap[j]? := fun j hj => by rw [← hV9]; exact heap_setCells_other hj _ _ _
          replace hBw := hb9 _ _ hwN hBw
          replace hS := hS00.then hBw
          replace hch : ChrAt V9 gC (48 + i) := hch.kept (hk9 _ (fun q => chr_ne hch hz q)) (hb9 0 w4 (Nat.zero_le _) (Below.refl _ _)).size
          replace hgr : OwnR 119 2 gcl V9 wr.heap.size x0.av x0.n.acl := by rw [hx0]; exact hgr.keep fun j hj => hk9 j (fun q => hneA (by rw [hj, q]))
          replace hwo : OwnR 2 1 wcl V9 wr.heap.size x0.wv x0.n.words := by rw [hx0]; exact hwo.keep fun j hj => hk9 j (fun q => hneW (by rw [hj, q]))
          replace hneA : x0.av.ownBlock ≠ some gN := by rw [hx0]; exact hneA
          replace hneW : x0.wv.ownBlock ≠ some gN := by rw [hx0]; exact hneW
          replace hneG : ∀ g, x0.wv.ownBlock = some g → x0.av.ownBlock ≠ some g := by rw [hx0]; exact fun g h9 h8 => hneG (by have h7 : gA = g := Option.some.inj h8; rw [h7]; exact h9)
          replace hx0 : Aside (x0.n = segX (D ++ slpS ++ dgS i) d1.n.label 7 ⟨4, 4, 4, 0⟩ (wordsN pp.is)) := by rw [hx0]; exact rfl
          clear hk9 hth9 hb9 hV9 hxs hxl hz
          refine hK.out _ _ (⟨hS, hch⟩) ?_
          clear hHeld hK
          intro hHeld
          (try simp only [Act.put, zsA, zsB, zsC])
          refine wpAnyH_done (by kernel_rfl) ?_ _
          clear hHeld
          go_wp2_with fail
          go_meet
          exact ⟨gN, x0, rfl, hBw, hgo, hwN, hx0.out, hgr, hwo, hneA, hneW, hneG⟩
        refine tkC (fun K hK => ?_) ?_
        · skip
          have hb := alloc_below w0 (.cells (gcl ⟨starS, 7⟩).toArray 119)
          refine step_build1 gr_okT (by decide) rfl _ rfl (gcl ⟨starS, 7⟩) rfl rfl ?_
          (try simp only [Act.put, zsA, zsB, zsC])
          refine hK.out _ _ (hS.then hb) ?_
          clear hHeld hK
          intro hHeld
          have hgr : OwnR 119 2 gcl (w0.alloc (.cells (gcl ⟨starS, 7⟩).toArray 119)) wr.heap.size (.slice (some ⟨w0.heap.size, 0, none⟩) 1 1) [⟨starS, 7⟩] := own_oneP gr_okT w0 hBw.size ⟨starS, 7⟩
          replace hBw := Below.then hBw hb
          replace hS := hS.then hb
          generalize w0.alloc (.cells (gcl ⟨starS, 7⟩).toArray 119) = w1 at *
          generalize w0.heap.size = gA at *
          clear hb
          (try simp only [Act.put, zsA, zsB, zsC])
          refine tkR (rs := [5, 17, 19]) ?_
          refine tkC (fun K hK => ?_) ?_
          · go_simp
            have hb := alloc_below w1 (.cells #[.int .u8 (48 + (i : Int))] 5)
            refine hK.out _ _ (hS.then hb) ?_
            clear hHeld hK
            intro hHeld
            have hch : ChrAt (w1.alloc (.cells #[.int .u8 (48 + (i : Int))] 5)) w1.heap.size (48 + i) := chr_made2 w1 i (by omega)
            replace hBw := Below.then hBw hb
            replace hS := hS.then hb
            replace hgr := hgr.below hb
            generalize w1.alloc (.cells #[.int .u8 (48 + (i : Int))] 5) = w2 at *
            generalize w1.heap.size = gC at *
            clear hb
            refine wpAnyH_strong (S' := fun W => PX wr nd d1 yp i pp W ∧ ChrAt W gC (48 + i)) (fun _ h => h.1) ?_
            replace hHeld : PX wr nd d1 yp i pp w2 ∧ ChrAt w2 gC (48 + i) := ⟨hS, hch⟩
            (try simp only [Act.put, zsA, zsB, zsC])
            refine tkB 6 (y := yields_conv (by rfl) _ rfl rfl (fun _ s => s.2.conv)) (h := ?_)
            refine tkA 7 ?_
            refine tkR (rs := [17, 19]) ?_
            refine tkC (fun K hK => ?_) ?_
            · go_simp
              go_at_call 42
              refine (kwd w2 (hpA'.below in_okW.len (Below.then hBr hBw))).mono ?_
              rintro e w3 ⟨vw, rfl, hwo, hb⟩
              obtain ⟨va, vc, hvw, -, -, -⟩ := hwo.slice wd_okC.len
              subst hvw
              have hBw0 : wr.heap.size ≤ w2.heap.size := hBw.size
              have hneG : (Value.slice va (wordsN pp.is).length vc).ownBlock ≠ some gA := fun q => by have h9 := (hwo.lt q).1; have h8 : gA < w2.heap.size := (hgr.lt rfl).2; omega
              replace hBw := Below.then hBw hb
              replace hS := hS.then hb
              replace hch := hch.below hb
              replace hgr := hgr.below hb
              replace hwo : OwnR 2 1 wcl w3 wr.heap.size (Value.slice va (wordsN pp.is).length vc) (wordsN pp.is) := hwo.lower hBw0
              clear hb hBw0
              refine hK.out _ _ (⟨hS, hch⟩) ?_
              clear hHeld hK
              intro hHeld
              (try simp only [Act.put, zsA, zsB, zsC])
              refine tkA 18 ?_
              refine tkR (rs := [19]) ?_
              refine tkC (fun K hK => ?_) AllReadyH.nil
              have hb := alloc_below w3 (.cells ZNP 36)
              refine step_allocC (z := ZNP) rfl rfl (fun _ => rfl) ?_
              (try simp only [Act.put, zsA, zsB, zsC])
              refine hK.out _ _ (⟨hS.then hb, hch.below hb⟩) ?_
              clear hHeld hK
              intro hHeld
              have hz : BlkL w3.heap.size zeroP.cs (w3.alloc (.cells ZNP 36)) := blkl_alloc w3 ZNP 36
              have hwN : wr.heap.size ≤ w3.heap.size := hBw.size
              have hneA : (Value.slice (some ⟨gA, 0, none⟩) 1 1).ownBlock ≠ some w3.heap.size := fun q => by have h9 : gA = w3.heap.size := Option.some.inj q; have h8 : gA < w3.heap.size := (hgr.lt rfl).2; omega
              have hneW : (Value.slice va (wordsN pp.is).length vc).ownBlock ≠ some w3.heap.size := fun q => by have := (hwo.lt q).2; omega
              replace hBw := Below.then hBw hb
              replace hS := hS.then hb
              replace hch := hch.below hb
              replace hgr := hgr.below hb
              replace hwo := hwo.below hb
              generalize w3.alloc (.cells ZNP 36) = w4 at *
              generalize w3.heap.size = gN at *
              clear hb
              (try simp only [Act.put, zsA, zsB, zsC])
              refine tkR (rs := [20]) ?_
              refine tkC (fun K hK => ?_) AllReadyH.nil
              obtain ⟨x0, hx0⟩ : ∃ x0 : PN, x0 = ⟨segX (D ++ slpS ++ dgS i) d1.n.label 7 ⟨4, 4, 4, 0⟩ (wordsN pp.is), some ⟨gA, 0, none⟩, 1, va, vc⟩ := ⟨_, rfl⟩
              have hxl : x0.cs.length = 16 := pn_len x0
              have hxs : (Tryz.prog.info? 36).map (·.size) = some x0.cs.length := by rw [hxl]; exact hszN
              obtain ⟨V9, hV9, hth9, hgo, hb9⟩ := put_any hz (ds := x0.cs) (by rw [hxl]; rfl) (by rw [hxl]; decide)
              refine step_store_rowC rfl _ _ rfl gN rfl x0.cs (by rw [hx0]; rfl) hth9 hxs (pn_one x0) hV9 ?_
              (try simp only [Act.put, zsA, zsB, zsC])
              have hk9 : ∀ j, j ≠ gN → V9.heap[j]? = w4.heap[j]? := fun j hj => by rw [← hV9]; exact heap_setCells_other hj _ _ _
              replace hBw := hb9 _ _ hwN hBw
              replace hS := hS00.then hBw
              replace hch : ChrAt V9 gC (48 + i) := hch.kept (hk9 _ (fun q => chr_ne hch hz q)) (hb9 0 w4 (Nat.zero_le _) (Below.refl _ _)).size
              replace hgr : OwnR 119 2 gcl V9 wr.heap.size x0.av x0.n.acl := by rw [hx0]; exact hgr.keep fun j hj => hk9 j (fun q => hneA (by rw [hj, q]))
              replace hwo : OwnR 2 1 wcl V9 wr.heap.size x0.wv x0.n.words := by rw [hx0]; exact hwo.keep fun j hj => hk9 j (fun q => hneW (by rw [hj, q]))
              replace hneA : x0.av.ownBlock ≠ some gN := by rw [hx0]; exact hneA
              replace hneW : x0.wv.ownBlock ≠ some gN := by rw [hx0]; exact hneW
              replace hneG : ∀ g, x0.wv.ownBlock = some g → x0.av.ownBlock ≠ some g := by rw [hx0]; exact fun g h9 h8 => hneG (by have h7 : gA = g := Option.some.inj h8; rw [h7]; exact h9)
              replace hx0 : Aside (x0.n = segX (D ++ slpS ++ dgS i) d1.n.label 7 ⟨4, 4, 4, 0⟩ (wordsN pp.is)) := by rw [hx0]; exact rfl
              clear hk9 hth9 hb9 hV9 hxs hxl hz
              refine hK.out _ _ (⟨hS, hch⟩) ?_
              clear hHeld hK
              intro hHeld
              (try simp only [Act.put, zsA, zsB, zsC])
              refine wpAnyH_done (by kernel_rfl) ?_ _
              clear hHeld
              go_wp2_with fail
              go_meet
              exact ⟨gN, x0, rfl, hBw, hgo, hwN, hx0.out, hgr, hwo, hneA, hneW, hneG⟩
            refine tkC (fun K hK => ?_) AllReadyH.nil
            have hb := alloc_below w2 (.cells ZNP 36)
            refine step_allocC (z := ZNP) rfl rfl (fun _ => rfl) ?_
            (try simp only [Act.put, zsA, zsB, zsC])
            refine hK.out _ _ (⟨hS.then hb, hch.below hb⟩) ?_
            clear hHeld hK
            intro hHeld
            have hz : BlkL w2.heap.size zeroP.cs (w2.alloc (.cells ZNP 36)) := blkl_alloc w2 ZNP 36
            have hwN : wr.heap.size ≤ w2.heap.size := hBw.size
            have hneA : (Value.slice (some ⟨gA, 0, none⟩) 1 1).ownBlock ≠ some w2.heap.size := fun q => by have h9 : gA = w2.heap.size := Option.some.inj q; have h8 : gA < w2.heap.size := (hgr.lt rfl).2; omega
            replace hBw := Below.then hBw hb
            replace hS := hS.then hb
            replace hch := hch.below hb
            replace hgr := hgr.below hb
            generalize w2.alloc (.cells ZNP 36) = w3 at *
            generalize w2.heap.size = gN at *
            clear hb
            (try simp only [Act.put, zsA, zsB, zsC])
            refine tkR (rs := [17]) ?_
            refine tkC (fun K hK => ?_) AllReadyH.nil
            go_simp
            go_at_call 42
            refine (kwd w3 (hpA'.below in_okW.len (Below.then hBr hBw))).mono ?_
            rintro e w4 ⟨vw, rfl, hwo, hb⟩
            obtain ⟨va, vc, hvw, -, -, -⟩ := hwo.slice wd_okC.len
            subst hvw
            have hBw0 : wr.heap.size ≤ w3.heap.size := hBw.size
            have hneW : (Value.slice va (wordsN pp.is).length vc).ownBlock ≠ some gN := fun q => by have h9 := (hwo.lt q).1; have h8 := hz.2; omega
            have hneG : (Value.slice va (wordsN pp.is).length vc).ownBlock ≠ some gA := fun q => by have h9 := (hwo.lt q).1; have h8 : gA < w3.heap.size := (hgr.lt rfl).2; omega
            replace hBw := Below.then hBw hb
            replace hS := hS.then hb
            replace hch := hch.below hb
            replace hgr := hgr.below hb
            replace hz := stab_blk _ _ _ _ hz hb
            replace hwo : OwnR 2 1 wcl w4 wr.heap.size (Value.slice va (wordsN pp.is).length vc) (wordsN pp.is) := hwo.lower hBw0
            clear hb hBw0
            refine hK.out _ _ (⟨hS, hch⟩) ?_
            clear hHeld hK
            intro hHeld
            (try simp only [Act.put, zsA, zsB, zsC])
            refine tkA 18 ?_
            refine tkR (rs := [20]) ?_
            refine tkC (fun K hK => ?_) AllReadyH.nil
            obtain ⟨x0, hx0⟩ : ∃ x0 : PN, x0 = ⟨segX (D ++ slpS ++ dgS i) d1.n.label 7 ⟨4, 4, 4, 0⟩ (wordsN pp.is), some ⟨gA, 0, none⟩, 1, va, vc⟩ := ⟨_, rfl⟩
            have hxl : x0.cs.length = 16 := pn_len x0
            have hxs : (Tryz.prog.info? 36).map (·.size) = some x0.cs.length := by rw [hxl]; exact hszN
            obtain ⟨V9, hV9, hth9, hgo, hb9⟩ := put_any hz (ds := x0.cs) (by rw [hxl]; rfl) (by rw [hxl]; decide)
            refine step_store_rowC rfl _ _ rfl gN rfl x0.cs (by rw [hx0]; rfl) hth9 hxs (pn_one x0) hV9 ?_
            (try simp only [Act.put, zsA, zsB, zsC])
            have hk9 : ∀ j, j ≠ gN → V9.heap[j]? = w4.heap[j]? := fun j hj => by rw [← hV9]; exact heap_setCells_other hj _ _ _
            replace hBw := hb9 _ _ hwN hBw
            replace hS := hS00.then hBw
            replace hch : ChrAt V9 gC (48 + i) := hch.kept (hk9 _ (fun q => chr_ne hch hz q)) (hb9 0 w4 (Nat.zero_le _) (Below.refl _ _)).size
            replace hgr : OwnR 119 2 gcl V9 wr.heap.size x0.av x0.n.acl := by rw [hx0]; exact hgr.keep fun j hj => hk9 j (fun q => hneA (by rw [hj, q]))
            replace hwo : OwnR 2 1 wcl V9 wr.heap.size x0.wv x0.n.words := by rw [hx0]; exact hwo.keep fun j hj => hk9 j (fun q => hneW (by rw [hj, q]))
            replace hneA : x0.av.ownBlock ≠ some gN := by rw [hx0]; exact hneA
            replace hneW : x0.wv.ownBlock ≠ some gN := by rw [hx0]; exact hneW
            replace hneG : ∀ g, x0.wv.ownBlock = some g → x0.av.ownBlock ≠ some g := by rw [hx0]; exact fun g h9 h8 => hneG (by have h7 : gA = g := Option.some.inj h8; rw [h7]; exact h9)
            replace hx0 : Aside (x0.n = segX (D ++ slpS ++ dgS i) d1.n.label 7 ⟨4, 4, 4, 0⟩ (wordsN pp.is)) := by rw [hx0]; exact rfl
            clear hk9 hth9 hb9 hV9 hxs hxl hz
            refine hK.out _ _ (⟨hS, hch⟩) ?_
            clear hHeld hK
            intro hHeld
            (try simp only [Act.put, zsA, zsB, zsC])
            refine wpAnyH_done (by kernel_rfl) ?_ _
            clear hHeld
            go_wp2_with fail
            go_meet
            exact ⟨gN, x0, rfl, hBw, hgo, hwN, hx0.out, hgr, hwo, hneA, hneW, hneG⟩
          refine tkC (fun K hK => ?_) ?_
          · go_simp
            go_at_call 42
            refine (kwd w1 (hpA'.below in_okW.len (Below.then hBr hBw))).mono ?_
            rintro e w2 ⟨vw, rfl, hwo, hb⟩
            obtain ⟨va, vc, hvw, -, -, -⟩ := hwo.slice wd_okC.len
            subst hvw
            have hBw0 : wr.heap.size ≤ w1.heap.size := hBw.size
            have hneG : (Value.slice va (wordsN pp.is).length vc).ownBlock ≠ some gA := fun q => by have h9 := (hwo.lt q).1; have h8 : gA < w1.heap.size := (hgr.lt rfl).2; omega
            replace hBw := Below.then hBw hb
            replace hS := hS.then hb
            replace hgr := hgr.below hb
            replace hwo : OwnR 2 1 wcl w2 wr.heap.size (Value.slice va (wordsN pp.is).length vc) (wordsN pp.is) := hwo.lower hBw0
            clear hb hBw0
            refine hK.out _ _ (hS) ?_
            clear hHeld hK
            intro hHeld
            (try simp only [Act.put, zsA, zsB, zsC])
            refine tkR (rs := [5, 19]) ?_
            refine tkC (fun K hK => ?_) ?_
            · go_simp
              have hb := alloc_below w2 (.cells #[.int .u8 (48 + (i : Int))] 5)
              refine hK.out _ _ (hS.then hb) ?_
              clear hHeld hK
              intro hHeld
              have hch : ChrAt (w2.alloc (.cells #[.int .u8 (48 + (i : Int))] 5)) w2.heap.size (48 + i) := chr_made2 w2 i (by omega)
              replace hBw := Below.then hBw hb
              replace hS := hS.then hb
              replace hgr := hgr.below hb
              replace hwo := hwo.below hb
              generalize w2.alloc (.cells #[.int .u8 (48 + (i : Int))] 5) = w3 at *
              generalize w2.heap.size = gC at *
              clear hb
              refine wpAnyH_strong (S' := fun W => PX wr nd d1 yp i pp W ∧ ChrAt W gC (48 + i)) (fun _ h => h.1) ?_
              replace hHeld : PX wr nd d1 yp i pp w3 ∧ ChrAt w3 gC (48 + i) := ⟨hS, hch⟩
              (try simp only [Act.put, zsA, zsB, zsC])
              refine tkB 6 (y := yields_conv (by rfl) _ rfl rfl (fun _ s => s.2.conv)) (h := ?_)
              refine tkA 7 ?_
              refine tkA 18 ?_
              refine tkR (rs := [19]) ?_
              refine tkC (fun K hK => ?_) AllReadyH.nil
              have hb := alloc_below w3 (.cells ZNP 36)
              refine step_allocC (z := ZNP) rfl rfl (fun _ => rfl) ?_
              (try simp only [Act.put, zsA, zsB, zsC])
              refine hK.out _ _ (⟨hS.then hb, hch.below hb⟩) ?_
              clear hHeld hK
              intro hHeld
              have hz : BlkL w3.heap.size zeroP.cs (w3.alloc (.cells ZNP 36)) := blkl_alloc w3 ZNP 36
              have hwN : wr.heap.size ≤ w3.heap.size := hBw.size
              have hneA : (Value.slice (some ⟨gA, 0, none⟩) 1 1).ownBlock ≠ some w3.heap.size := fun q => by have h9 : gA = w3.heap.size := Option.some.inj q; have h8 : gA < w3.heap.size := (hgr.lt rfl).2; omega
              have hneW : (Value.slice va (wordsN pp.is).length vc).ownBlock ≠ some w3.heap.size := fun q => by have := (hwo.lt q).2; omega
              replace hBw := Below.then hBw hb
              replace hS := hS.then hb
              replace hch := hch.below hb
              replace hgr := hgr.below hb
              replace hwo := hwo.below hb
              generalize w3.alloc (.cells ZNP 36) = w4 at *
              generalize w3.heap.size = gN at *
              clear hb
              (try simp only [Act.put, zsA, zsB, zsC])
              refine tkR (rs := [20]) ?_
              refine tkC (fun K hK => ?_) AllReadyH.nil
              obtain ⟨x0, hx0⟩ : ∃ x0 : PN, x0 = ⟨segX (D ++ slpS ++ dgS i) d1.n.label 7 ⟨4, 4, 4, 0⟩ (wordsN pp.is), some ⟨gA, 0, none⟩, 1, va, vc⟩ := ⟨_, rfl⟩
              have hxl : x0.cs.length = 16 := pn_len x0
              have hxs : (Tryz.prog.info? 36).map (·.size) = some x0.cs.length := by rw [hxl]; exact hszN
              obtain ⟨V9, hV9, hth9, hgo, hb9⟩ := put_any hz (ds := x0.cs) (by rw [hxl]; rfl) (by rw [hxl]; decide)
              refine step_store_rowC rfl _ _ rfl gN rfl x0.cs (by rw [hx0]; rfl) hth9 hxs (pn_one x0) hV9 ?_
              (try simp only [Act.put, zsA, zsB, zsC])
              have hk9 : ∀ j, j ≠ gN → V9.heap[j]? = w4.heap[j]? := fun j hj => by rw [← hV9]; exact heap_setCells_other hj _ _ _
              replace hBw := hb9 _ _ hwN hBw
              replace hS := hS00.then hBw
              replace hch : ChrAt V9 gC (48 + i) := hch.kept (hk9 _ (fun q => chr_ne hch hz q)) (hb9 0 w4 (Nat.zero_le _) (Below.refl _ _)).size
              replace hgr : OwnR 119 2 gcl V9 wr.heap.size x0.av x0.n.acl := by rw [hx0]; exact hgr.keep fun j hj => hk9 j (fun q => hneA (by rw [hj, q]))
              replace hwo : OwnR 2 1 wcl V9 wr.heap.size x0.wv x0.n.words := by rw [hx0]; exact hwo.keep fun j hj => hk9 j (fun q => hneW (by rw [hj, q]))
              replace hneA : x0.av.ownBlock ≠ some gN := by rw [hx0]; exact hneA
              replace hneW : x0.wv.ownBlock ≠ some gN := by rw [hx0]; exact hneW
              replace hneG : ∀ g, x0.wv.ownBlock = some g → x0.av.ownBlock ≠ some g := by rw [hx0]; exact fun g h9 h8 => hneG (by have h7 : gA = g := Option.some.inj h8; rw [h7]; exact h9)
              replace hx0 : Aside (x0.n = segX (D ++ slpS ++ dgS i) d1.n.label 7 ⟨4, 4, 4, 0⟩ (wordsN pp.is)) := by rw [hx0]; exact rfl
              clear hk9 hth9 hb9 hV9 hxs hxl hz
              refine hK.out _ _ (⟨hS, hch⟩) ?_
              clear hHeld hK
              intro hHeld
              (try simp only [Act.put, zsA, zsB, zsC])
              refine wpAnyH_done (by kernel_rfl) ?_ _
              clear hHeld
              go_wp2_with fail
              go_meet
              exact ⟨gN, x0, rfl, hBw, hgo, hwN, hx0.out, hgr, hwo, hneA, hneW, hneG⟩
            refine tkC (fun K hK => ?_) AllReadyH.nil
            have hb := alloc_below w2 (.cells ZNP 36)
            refine step_allocC (z := ZNP) rfl rfl (fun _ => rfl) ?_
            (try simp only [Act.put, zsA, zsB, zsC])
            refine hK.out _ _ (hS.then hb) ?_
            clear hHeld hK
            intro hHeld
            have hz : BlkL w2.heap.size zeroP.cs (w2.alloc (.cells ZNP 36)) := blkl_alloc w2 ZNP 36
            have hwN : wr.heap.size ≤ w2.heap.size := hBw.size
            have hneA : (Value.slice (some ⟨gA, 0, none⟩) 1 1).ownBlock ≠ some w2.heap.size := fun q => by have h9 : gA = w2.heap.size := Option.some.inj q; have h8 : gA < w2.heap.size := (hgr.lt rfl).2; omega
            have hneW : (Value.slice va (wordsN pp.is).length vc).ownBlock ≠ some w2.heap.size := fun q => by have := (hwo.lt q).2; omega
            replace hBw := Below.then hBw hb
            replace hS := hS.then hb
            replace hgr := hgr.below hb
            replace hwo := hwo.below hb
            generalize w2.alloc (.cells ZNP 36) = w3 at *
            generalize w2.heap.size = gN at *
            clear hb
            (try simp only [Act.put, zsA, zsB, zsC])
            refine tkR (rs := [5]) ?_
            refine tkC (fun K hK => ?_) AllReadyH.nil
            go_simp
            have hb := alloc_below w3 (.cells #[.int .u8 (48 + (i : Int))] 5)
            refine hK.out _ _ (hS.then hb) ?_
            clear hHeld hK
            intro hHeld
            have hch : ChrAt (w3.alloc (.cells #[.int .u8 (48 + (i : Int))] 5)) w3.heap.size (48 + i) := chr_made2 w3 i (by omega)
            replace hBw := Below.then hBw hb
            replace hS := hS.then hb
            replace hgr := hgr.below hb
            replace hwo := hwo.below hb
            replace hz := stab_blk _ _ _ _ hz hb
            generalize w3.alloc (.cells #[.int .u8 (48 + (i : Int))] 5) = w4 at *
            generalize w3.heap.size = gC at *
            clear hb
            refine wpAnyH_strong (S' := fun W => PX wr nd d1 yp i pp W ∧ ChrAt W gC (48 + i)) (fun _ h => h.1) ?_
            replace hHeld : PX wr nd d1 yp i pp w4 ∧ ChrAt w4 gC (48 + i) := ⟨hS, hch⟩
            (try simp only [Act.put, zsA, zsB, zsC])
            refine tkB 6 (y := yields_conv (by rfl) _ rfl rfl (fun _ s => s.2.conv)) (h := ?_)
            refine tkA 7 ?_
            refine tkA 18 ?_
            refine tkR (rs := [20]) ?_
            refine tkC (fun K hK => ?_) AllReadyH.nil
            obtain ⟨x0, hx0⟩ : ∃ x0 : PN, x0 = ⟨segX (D ++ slpS ++ dgS i) d1.n.label 7 ⟨4, 4, 4, 0⟩ (wordsN pp.is), some ⟨gA, 0, none⟩, 1, va, vc⟩ := ⟨_, rfl⟩
            have hxl : x0.cs.length = 16 := pn_len x0
            have hxs : (Tryz.prog.info? 36).map (·.size) = some x0.cs.length := by rw [hxl]; exact hszN
            obtain ⟨V9, hV9, hth9, hgo, hb9⟩ := put_any hz (ds := x0.cs) (by rw [hxl]; rfl) (by rw [hxl]; decide)
            refine step_store_rowC rfl _ _ rfl gN rfl x0.cs (by rw [hx0]; rfl) hth9 hxs (pn_one x0) hV9 ?_
            (try simp only [Act.put, zsA, zsB, zsC])
            have hk9 : ∀ j, j ≠ gN → V9.heap[j]? = w4.heap[j]? := fun j hj => by rw [← hV9]; exact heap_setCells_other hj _ _ _
            replace hBw := hb9 _ _ hwN hBw
            replace hS := hS00.then hBw
            replace hch : ChrAt V9 gC (48 + i) := hch.kept (hk9 _ (fun q => chr_ne hch hz q)) (hb9 0 w4 (Nat.zero_le _) (Below.refl _ _)).size
            replace hgr : OwnR 119 2 gcl V9 wr.heap.size x0.av x0.n.acl := by rw [hx0]; exact hgr.keep fun j hj => hk9 j (fun q => hneA (by rw [hj, q]))
            replace hwo : OwnR 2 1 wcl V9 wr.heap.size x0.wv x0.n.words := by rw [hx0]; exact hwo.keep fun j hj => hk9 j (fun q => hneW (by rw [hj, q]))
            replace hneA : x0.av.ownBlock ≠ some gN := by rw [hx0]; exact hneA
            replace hneW : x0.wv.ownBlock ≠ some gN := by rw [hx0]; exact hneW
            replace hneG : ∀ g, x0.wv.ownBlock = some g → x0.av.ownBlock ≠ some g := by rw [hx0]; exact fun g h9 h8 => hneG (by have h7 : gA = g := Option.some.inj h8; rw [h7]; exact h9)
            replace hx0 : Aside (x0.n = segX (D ++ slpS ++ dgS i) d1.n.label 7 ⟨4, 4, 4, 0⟩ (wordsN pp.is)) := by rw [hx0]; exact rfl
            clear hk9 hth9 hb9 hV9 hxs hxl hz
            refine hK.out _ _ (⟨hS, hch⟩) ?_
            clear hHeld hK
            intro hHeld
            (try simp only [Act.put, zsA, zsB, zsC])
            refine wpAnyH_done (by kernel_rfl) ?_ _
            clear hHeld
            go_wp2_with fail
            go_meet
            exact ⟨gN, x0, rfl, hBw, hgo, hwN, hx0.out, hgr, hwo, hneA, hneW, hneG⟩
          refine tkC (fun K hK => ?_) AllReadyH.nil
          have hb := alloc_below w1 (.cells ZNP 36)
          refine step_allocC (z := ZNP) rfl rfl (fun _ => rfl) ?_
          (try simp only [Act.put, zsA, zsB, zsC])
          refine hK.out _ _ (hS.then hb) ?_
          clear hHeld hK
          intro hHeld
          have hz : BlkL w1.heap.size zeroP.cs (w1.alloc (.cells ZNP 36)) := blkl_alloc w1 ZNP 36
          have hwN : wr.heap.size ≤ w1.heap.size := hBw.size
          have hneA : (Value.slice (some ⟨gA, 0, none⟩) 1 1).ownBlock ≠ some w1.heap.size := fun q => by have h9 : gA = w1.heap.size := Option.some.inj q; have h8 : gA < w1.heap.size := (hgr.lt rfl).2; omega
          replace hBw := Below.then hBw hb
          replace hS := hS.then hb
          replace hgr := hgr.below hb
          generalize w1.alloc (.cells ZNP 36) = w2 at *
          generalize w1.heap.size = gN at *
          clear hb
          (try simp only [Act.put, zsA, zsB, zsC])
          refine tkR (rs := [5, 17]) ?_
          refine tkC (fun K hK => ?_) ?_
          · go_simp
            have hb := alloc_below w2 (.cells #[.int .u8 (48 + (i : Int))] 5)
            refine hK.out _ _ (hS.then hb) ?_
            clear hHeld hK
            intro hHeld
            have hch : ChrAt (w2.alloc (.cells #[.int .u8 (48 + (i : Int))] 5)) w2.heap.size (48 + i) := chr_made2 w2 i (by omega)
            replace hBw := Below.then hBw hb
            replace hS := hS.then hb
            replace hgr := hgr.below hb
            replace hz := stab_blk _ _ _ _ hz hb
            generalize w2.alloc (.cells #[.int .u8 (48 + (i : Int))] 5) = w3 at *
            generalize w2.heap.size = gC at *
            clear hb
            refine wpAnyH_strong (S' := fun W => PX wr nd d1 yp i pp W ∧ ChrAt W gC (48 + i)) (fun _ h => h.1) ?_
            replace hHeld : PX wr nd d1 yp i pp w3 ∧ ChrAt w3 gC (48 + i) := ⟨hS, hch⟩
            (try simp only [Act.put, zsA, zsB, zsC])
            refine tkB 6 (y := yields_conv (by rfl) _ rfl rfl (fun _ s => s.2.conv)) (h := ?_)
            refine tkA 7 ?_
            refine tkR (rs := [17]) ?_
            refine tkC (fun K hK => ?_) AllReadyH.nil
            go_simp
            go_at_call 42
            refine (kwd w3 (hpA'.below in_okW.len (Below.then hBr hBw))).mono ?_
            rintro e w4 ⟨vw, rfl, hwo, hb⟩
            obtain ⟨va, vc, hvw, -, -, -⟩ := hwo.slice wd_okC.len
            subst hvw
            have hBw0 : wr.heap.size ≤ w3.heap.size := hBw.size
            have hneW : (Value.slice va (wordsN pp.is).length vc).ownBlock ≠ some gN := fun q => by have h9 := (hwo.lt q).1; have h8 := hz.2; omega
            have hneG : (Value.slice va (wordsN pp.is).length vc).ownBlock ≠ some gA := fun q => by have h9 := (hwo.lt q).1; have h8 : gA < w3.heap.size := (hgr.lt rfl).2; omega
            replace hBw := Below.then hBw hb
            replace hS := hS.then hb
            replace hch := hch.below hb
            replace hgr := hgr.below hb
            replace hz := stab_blk _ _ _ _ hz hb
            replace hwo : OwnR 2 1 wcl w4 wr.heap.size (Value.slice va (wordsN pp.is).length vc) (wordsN pp.is) := hwo.lower hBw0
            clear hb hBw0
            refine hK.out _ _ (⟨hS, hch⟩) ?_
            clear hHeld hK
            intro hHeld
            (try simp only [Act.put, zsA, zsB, zsC])
            refine tkA 18 ?_
            refine tkR (rs := [20]) ?_
            refine tkC (fun K hK => ?_) AllReadyH.nil
            obtain ⟨x0, hx0⟩ : ∃ x0 : PN, x0 = ⟨segX (D ++ slpS ++ dgS i) d1.n.label 7 ⟨4, 4, 4, 0⟩ (wordsN pp.is), some ⟨gA, 0, none⟩, 1, va, vc⟩ := ⟨_, rfl⟩
            have hxl : x0.cs.length = 16 := pn_len x0
            have hxs : (Tryz.prog.info? 36).map (·.size) = some x0.cs.length := by rw [hxl]; exact hszN
            obtain ⟨V9, hV9, hth9, hgo, hb9⟩ := put_any hz (ds := x0.cs) (by rw [hxl]; rfl) (by rw [hxl]; decide)
            refine step_store_rowC rfl _ _ rfl gN rfl x0.cs (by rw [hx0]; rfl) hth9 hxs (pn_one x0) hV9 ?_
            (try simp only [Act.put, zsA, zsB, zsC])
            have hk9 : ∀ j, j ≠ gN → V9.heap[j]? = w4.heap[j]? := fun j hj => by rw [← hV9]; exact heap_setCells_other hj _ _ _
            replace hBw := hb9 _ _ hwN hBw
            replace hS := hS00.then hBw
            replace hch : ChrAt V9 gC (48 + i) := hch.kept (hk9 _ (fun q => chr_ne hch hz q)) (hb9 0 w4 (Nat.zero_le _) (Below.refl _ _)).size
            replace hgr : OwnR 119 2 gcl V9 wr.heap.size x0.av x0.n.acl := by rw [hx0]; exact hgr.keep fun j hj => hk9 j (fun q => hneA (by rw [hj, q]))
            replace hwo : OwnR 2 1 wcl V9 wr.heap.size x0.wv x0.n.words := by rw [hx0]; exact hwo.keep fun j hj => hk9 j (fun q => hneW (by rw [hj, q]))
            replace hneA : x0.av.ownBlock ≠ some gN := by rw [hx0]; exact hneA
            replace hneW : x0.wv.ownBlock ≠ some gN := by rw [hx0]; exact hneW
            replace hneG : ∀ g, x0.wv.ownBlock = some g → x0.av.ownBlock ≠ some g := by rw [hx0]; exact fun g h9 h8 => hneG (by have h7 : gA = g := Option.some.inj h8; rw [h7]; exact h9)
            replace hx0 : Aside (x0.n = segX (D ++ slpS ++ dgS i) d1.n.label 7 ⟨4, 4, 4, 0⟩ (wordsN pp.is)) := by rw [hx0]; exact rfl
            clear hk9 hth9 hb9 hV9 hxs hxl hz
            refine hK.out _ _ (⟨hS, hch⟩) ?_
            clear hHeld hK
            intro hHeld
            (try simp only [Act.put, zsA, zsB, zsC])
            refine wpAnyH_done (by kernel_rfl) ?_ _
            clear hHeld
            go_wp2_with fail
            go_meet
            exact ⟨gN, x0, rfl, hBw, hgo, hwN, hx0.out, hgr, hwo, hneA, hneW, hneG⟩
          refine tkC (fun K hK => ?_) AllReadyH.nil
          go_simp
          go_at_call 42
          refine (kwd w2 (hpA'.below in_okW.len (Below.then hBr hBw))).mono ?_
          rintro e w3 ⟨vw, rfl, hwo, hb⟩
          obtain ⟨va, vc, hvw, -, -, -⟩ := hwo.slice wd_okC.len
          subst hvw
          have hBw0 : wr.heap.size ≤ w2.heap.size := hBw.size
          have hneW : (Value.slice va (wordsN pp.is).length vc).ownBlock ≠ some gN := fun q => by have h9 := (hwo.lt q).1; have h8 := hz.2; omega
          have hneG : (Value.slice va (wordsN pp.is).length vc).ownBlock ≠ some gA := fun q => by have h9 := (hwo.lt q).1; have h8 : gA < w2.heap.size := (hgr.lt rfl).2; omega
          replace hBw := Below.then hBw hb
          replace hS := hS.then hb
          replace hgr := hgr.below hb
          replace hz := stab_blk _ _ _ _ hz hb
          replace hwo : OwnR 2 1 wcl w3 wr.heap.size (Value.slice va (wordsN pp.is).length vc) (wordsN pp.is) := hwo.lower hBw0
          clear hb hBw0
          refine hK.out _ _ (hS) ?_
          clear hHeld hK
          intro hHeld
          (try simp only [Act.put, zsA, zsB, zsC])
          refine tkR (rs := [5]) ?_
          refine tkC (fun K hK => ?_) AllReadyH.nil
          go_simp
          have hb := alloc_below w3 (.cells #[.int .u8 (48 + (i : Int))] 5)
          refine hK.out _ _ (hS.then hb) ?_
          clear hHeld hK
          intro hHeld
          have hch : ChrAt (w3.alloc (.cells #[.int .u8 (48 + (i : Int))] 5)) w3.heap.size (48 + i) := chr_made2 w3 i (by omega)
          replace hBw := Below.then hBw hb
          replace hS := hS.then hb
          replace hgr := hgr.below hb
          replace hwo := hwo.below hb
          replace hz := stab_blk _ _ _ _ hz hb
          generalize w3.alloc (.cells #[.int .u8 (48 + (i : Int))] 5) = w4 at *
          generalize w3.heap.size = gC at *
          clear hb
          refine wpAnyH_strong (S' := fun W => PX wr nd d1 yp i pp W ∧ ChrAt W gC (48 + i)) (fun _ h => h.1) ?_
          replace hHeld : PX wr nd d1 yp i pp w4 ∧ ChrAt w4 gC (48 + i) := ⟨hS, hch⟩
          (try simp only [Act.put, zsA, zsB, zsC])
          refine tkB 6 (y := yields_conv (by rfl) _ rfl rfl (fun _ s => s.2.conv)) (h := ?_)
          refine tkA 7 ?_
          refine tkA 18 ?_
          refine tkR (rs := [20]) ?_
          refine tkC (fun K hK => ?_) AllReadyH.nil
          obtain ⟨x0, hx0⟩ : ∃ x0 : PN, x0 = ⟨segX (D ++ slpS ++ dgS i) d1.n.label 7 ⟨4, 4, 4, 0⟩ (wordsN pp.is), some ⟨gA, 0, none⟩, 1, va, vc⟩ := ⟨_, rfl⟩
          have hxl : x0.cs.length = 16 := pn_len x0
          have hxs : (Tryz.prog.info? 36).map (·.size) = some x0.cs.length := by rw [hxl]; exact hszN
          obtain ⟨V9, hV9, hth9, hgo, hb9⟩ := put_any hz (ds := x0.cs) (by rw [hxl]; rfl) (by rw [hxl]; decide)
          refine step_store_rowC rfl _ _ rfl gN rfl x0.cs (by rw [hx0]; rfl) hth9 hxs (pn_one x0) hV9 ?_
          (try simp only [Act.put, zsA, zsB, zsC])
          have hk9 : ∀ j, j ≠ gN → V9.heap[j]? = w4.heap[j]? := fun j hj => by rw [← hV9]; exact heap_setCells_other hj _ _ _
          replace hBw := hb9 _ _ hwN hBw
          replace hS := hS00.then hBw
          replace hch : ChrAt V9 gC (48 + i) := hch.kept (hk9 _ (fun q => chr_ne hch hz q)) (hb9 0 w4 (Nat.zero_le _) (Below.refl _ _)).size
          replace hgr : OwnR 119 2 gcl V9 wr.heap.size x0.av x0.n.acl := by rw [hx0]; exact hgr.keep fun j hj => hk9 j (fun q => hneA (by rw [hj, q]))
          replace hwo : OwnR 2 1 wcl V9 wr.heap.size x0.wv x0.n.words := by rw [hx0]; exact hwo.keep fun j hj => hk9 j (fun q => hneW (by rw [hj, q]))
          replace hneA : x0.av.ownBlock ≠ some gN := by rw [hx0]; exact hneA
          replace hneW : x0.wv.ownBlock ≠ some gN := by rw [hx0]; exact hneW
          replace hneG : ∀ g, x0.wv.ownBlock = some g → x0.av.ownBlock ≠ some g := by rw [hx0]; exact fun g h9 h8 => hneG (by have h7 : gA = g := Option.some.inj h8; rw [h7]; exact h9)
          replace hx0 : Aside (x0.n = segX (D ++ slpS ++ dgS i) d1.n.label 7 ⟨4, 4, 4, 0⟩ (wordsN pp.is)) := by rw [hx0]; exact rfl
          clear hk9 hth9 hb9 hV9 hxs hxl hz
          refine hK.out _ _ (⟨hS, hch⟩) ?_
          clear hHeld hK
          intro hHeld
          (try simp only [Act.put, zsA, zsB, zsC])
          refine wpAnyH_done (by kernel_rfl) ?_ _
          clear hHeld
          go_wp2_with fail
          go_meet
          exact ⟨gN, x0, rfl, hBw, hgo, hwN, hx0.out, hgr, hwo, hneA, hneW, hneG⟩
        refine tkC (fun K hK => ?_) ?_
        · go_simp
          go_at_call 42
          refine (kwd w0 (hpA'.below in_okW.len (Below.then hBr hBw))).mono ?_
          rintro e w1 ⟨vw, rfl, hwo, hb⟩
          obtain ⟨va, vc, hvw, -, -, -⟩ := hwo.slice wd_okC.len
          subst hvw
          have hBw0 : wr.heap.size ≤ w0.heap.size := hBw.size
          replace hBw := Below.then hBw hb
          replace hS := hS.then hb
          replace hwo : OwnR 2 1 wcl w1 wr.heap.size (Value.slice va (wordsN pp.is).length vc) (wordsN pp.is) := hwo.lower hBw0
          clear hb hBw0
          refine hK.out _ _ (hS) ?_
          clear hHeld hK
          intro hHeld
          (try simp only [Act.put, zsA, zsB, zsC])
          refine tkR (rs := [5, 11, 19]) ?_
          refine tkC (fun K hK => ?_) ?_
          · go_simp
            have hb := alloc_below w1 (.cells #[.int .u8 (48 + (i : Int))] 5)
            refine hK.out _ _ (hS.then hb) ?_
            clear hHeld hK
            intro hHeld
            have hch : ChrAt (w1.alloc (.cells #[.int .u8 (48 + (i : Int))] 5)) w1.heap.size (48 + i) := chr_made2 w1 i (by omega)
            replace hBw := Below.then hBw hb
            replace hS := hS.then hb
            replace hwo := hwo.below hb
            generalize w1.alloc (.cells #[.int .u8 (48 + (i : Int))] 5) = w2 at *
            generalize w1.heap.size = gC at *
            clear hb
            refine wpAnyH_strong (S' := fun W => PX wr nd d1 yp i pp W ∧ ChrAt W gC (48 + i)) (fun _ h => h.1) ?_
            replace hHeld : PX wr nd d1 yp i pp w2 ∧ ChrAt w2 gC (48 + i) := ⟨hS, hch⟩
            (try simp only [Act.put, zsA, zsB, zsC])
            refine tkB 6 (y := yields_conv (by rfl) _ rfl rfl (fun _ s => s.2.conv)) (h := ?_)
            refine tkA 7 ?_
            refine tkR (rs := [11, 19]) ?_
            refine tkC (fun K hK => ?_) ?_
            · skip
              have hb := alloc_below w2 (.cells (gcl ⟨starS, 7⟩).toArray 119)
              refine step_build1 gr_okT (by decide) rfl _ rfl (gcl ⟨starS, 7⟩) rfl rfl ?_
              (try simp only [Act.put, zsA, zsB, zsC])
              refine hK.out _ _ (⟨hS.then hb, hch.below hb⟩) ?_
              clear hHeld hK
              intro hHeld
              have hgr : OwnR 119 2 gcl (w2.alloc (.cells (gcl ⟨starS, 7⟩).toArray 119)) wr.heap.size (.slice (some ⟨w2.heap.size, 0, none⟩) 1 1) [⟨starS, 7⟩] := own_oneP gr_okT w2 hBw.size ⟨starS, 7⟩
              have hneG : (Value.slice va (wordsN pp.is).length vc).ownBlock ≠ some w2.heap.size := fun q => by have := (hwo.lt q).2; omega
              replace hBw := Below.then hBw hb
              replace hS := hS.then hb
              replace hch := hch.below hb
              replace hwo := hwo.below hb
              generalize w2.alloc (.cells (gcl ⟨starS, 7⟩).toArray 119) = w3 at *
              generalize w2.heap.size = gA at *
              clear hb
              (try simp only [Act.put, zsA, zsB, zsC])
              refine tkA 18 ?_
              refine tkR (rs := [19]) ?_
              refine tkC (fun K hK => ?_) AllReadyH.nil
              have hb := alloc_below w3 (.cells ZNP 36)
              refine step_allocC (z := ZNP) rfl rfl (fun _ => rfl) ?_
              (try simp only [Act.put, zsA, zsB, zsC])
              refine hK.out _ _ (⟨hS.then hb, hch.below hb⟩) ?_
              clear hHeld hK
              intro hHeld
              have hz : BlkL w3.heap.size zeroP.cs (w3.alloc (.cells ZNP 36)) := blkl_alloc w3 ZNP 36
              have hwN : wr.heap.size ≤ w3.heap.size := hBw.size
              have hneA : (Value.slice (some ⟨gA, 0, none⟩) 1 1).ownBlock ≠ some w3.heap.size := fun q => by have h9 : gA = w3.heap.size := Option.some.inj q; have h8 : gA < w3.heap.size := (hgr.lt rfl).2; omega
              have hneW : (Value.slice va (wordsN pp.is).length vc).ownBlock ≠ some w3.heap.size := fun q => by have := (hwo.lt q).2; omega
              replace hBw := Below.then hBw hb
              replace hS := hS.then hb
              replace hch := hch.below hb
              replace hgr := hgr.below hb
              replace hwo := hwo.below hb
              generalize w3.alloc (.cells ZNP 36) = w4 at *
              generalize w3.heap.size = gN at *
              clear hb
              (try simp only [Act.put, zsA, zsB, zsC])
              refine tkR (rs := [20]) ?_
              refine tkC (fun K hK => ?_) AllReadyH.nil
              obtain ⟨x0, hx0⟩ : ∃ x0 : PN, x0 = ⟨segX (D ++ slpS ++ dgS i) d1.n.label 7 ⟨4, 4, 4, 0⟩ (wordsN pp.is), some ⟨gA, 0, none⟩, 1, va, vc⟩ := ⟨_, rfl⟩
              have hxl : x0.cs.length = 16 := pn_len x0
              have hxs : (Tryz.prog.info? 36).map (·.size) = some x0.cs.length := by rw [hxl]; exact hszN
              obtain ⟨V9, hV9, hth9, hgo, hb9⟩ := put_any hz (ds := x0.cs) (by rw [hxl]; rfl) (by rw [hxl]; decide)
              refine step_store_rowC rfl _ _ rfl gN rfl x0.cs (by rw [hx0]; rfl) hth9 hxs (pn_one x0) hV9 ?_
              (try simp only [Act.put, zsA, zsB, zsC])
              have hk9 : ∀ j, j ≠ gN → V9.heap[j]? = w4.heap[j]? := fun j hj => by rw [← hV9]; exact heap_setCells_other hj _ _ _
              replace hBw := hb9 _ _ hwN hBw
              replace hS := hS00.then hBw
              replace hch : ChrAt V9 gC (48 + i) := hch.kept (hk9 _ (fun q => chr_ne hch hz q)) (hb9 0 w4 (Nat.zero_le _) (Below.refl _ _)).size
              replace hgr : OwnR 119 2 gcl V9 wr.heap.size x0.av x0.n.acl := by rw [hx0]; exact hgr.keep fun j hj => hk9 j (fun q => hneA (by rw [hj, q]))
              replace hwo : OwnR 2 1 wcl V9 wr.heap.size x0.wv x0.n.words := by rw [hx0]; exact hwo.keep fun j hj => hk9 j (fun q => hneW (by rw [hj, q]))
              replace hneA : x0.av.ownBlock ≠ some gN := by rw [hx0]; exact hneA
              replace hneW : x0.wv.ownBlock ≠ some gN := by rw [hx0]; exact hneW
              replace hneG : ∀ g, x0.wv.ownBlock = some g → x0.av.ownBlock ≠ some g := by rw [hx0]; exact fun g h9 h8 => hneG (by have h7 : gA = g := Option.some.inj h8; rw [h7]; exact h9)
              replace hx0 : Aside (x0.n = segX (D ++ slpS ++ dgS i) d1.n.label 7 ⟨4, 4, 4, 0⟩ (wordsN pp.is)) := by rw [hx0]; exact rfl
              clear hk9 hth9 hb9 hV9 hxs hxl hz
              refine hK.out _ _ (⟨hS, hch⟩) ?_
              clear hHeld hK
              intro hHeld
              (try simp only [Act.put, zsA, zsB, zsC])
              refine wpAnyH_done (by kernel_rfl) ?_ _
              clear hHeld
              go_wp2_with fail
              go_meet
              exact ⟨gN, x0, rfl, hBw, hgo, hwN, hx0.out, hgr, hwo, hneA, hneW, hneG⟩
            refine tkC (fun K hK => ?_) AllReadyH.nil
            have hb := alloc_below w2 (.cells ZNP 36)
            refine step_allocC (z := ZNP) rfl rfl (fun _ => rfl) ?_
            (try simp only [Act.put, zsA, zsB, zsC])
            refine hK.out _ _ (⟨hS.then hb, hch.below hb⟩) ?_
            clear hHeld hK
            intro hHeld
            have hz : BlkL w2.heap.size zeroP.cs (w2.alloc (.cells ZNP 36)) := blkl_alloc w2 ZNP 36
            have hwN : wr.heap.size ≤ w2.heap.size := hBw.size
            have hneW : (Value.slice va (wordsN pp.is).length vc).ownBlock ≠ some w2.heap.size := fun q => by have := (hwo.lt q).2; omega
            replace hBw := Below.then hBw hb
            replace hS := hS.then hb
            replace hch := hch.below hb
            replace hwo := hwo.below hb
            generalize w2.alloc (.cells ZNP 36) = w3 at *
            generalize w2.heap.size = gN at *
            clear hb
            (try simp only [Act.put, zsA, zsB, zsC])
            refine tkR (rs := [11]) ?_
            refine tkC (fun K hK => ?_) AllReadyH.nil
            have hb := alloc_below w3 (.cells (gcl ⟨starS, 7⟩).toArray 119)
            refine step_build1 gr_okT (by decide) rfl _ rfl (gcl ⟨starS, 7⟩) rfl rfl ?_
            (try simp only [Act.put, zsA, zsB, zsC])
            refine hK.out _ _ (⟨hS.then hb, hch.below hb⟩) ?_
            clear hHeld hK
            intro hHeld
            have hgr : OwnR 119 2 gcl (w3.alloc (.cells (gcl ⟨starS, 7⟩).toArray 119)) wr.heap.size (.slice (some ⟨w3.heap.size, 0, none⟩) 1 1) [⟨starS, 7⟩] := own_oneP gr_okT w3 hBw.size ⟨starS, 7⟩
            have hneA : (Value.slice (some ⟨w3.heap.size, 0, none⟩) 1 1).ownBlock ≠ some gN := fun q => by have h9 : w3.heap.size = gN := Option.some.inj q; have h8 := hz.2; omega
            have hneG : (Value.slice va (wordsN pp.is).length vc).ownBlock ≠ some w3.heap.size := fun q => by have := (hwo.lt q).2; omega
            replace hBw := Below.then hBw hb
            replace hS := hS.then hb
            replace hch := hch.below hb
            replace hwo := hwo.below hb
            replace hz := stab_blk _ _ _ _ hz hb
            generalize w3.alloc (.cells (gcl ⟨starS, 7⟩).toArray 119) = w4 at *
            generalize w3.heap.size = gA at *
            clear hb
            (try simp only [Act.put, zsA, zsB, zsC])
            refine tkA 18 ?_
            refine tkR (rs := [20]) ?_
            refine tkC (fun K hK => ?_) AllReadyH.nil
            obtain ⟨x0, hx0⟩ : ∃ x0 : PN, x0 = ⟨segX (D ++ slpS ++ dgS i) d1.n.label 7 ⟨4, 4, 4, 0⟩ (wordsN pp.is), some ⟨gA, 0, none⟩, 1, va, vc⟩ := ⟨_, rfl⟩
            have hxl : x0.cs.length = 16 := pn_len x0
            have hxs : (Tryz.prog.info? 36).map (·.size) = some x0.cs.length := by rw [hxl]; exact hszN
            obtain ⟨V9, hV9, hth9, hgo, hb9⟩ := put_any hz (ds := x0.cs) (by rw [hxl]; rfl) (by rw [hxl]; decide)
            refine step_store_rowC rfl _ _ rfl gN rfl x0.cs (by rw [hx0]; rfl) hth9 hxs (pn_one x0) hV9 ?_
            (try simp only [Act.put, zsA, zsB, zsC])
            have hk9 : ∀ j, j ≠ gN → V9.heap[j]? = w4.heap[j]? := fun j hj => by rw [← hV9]; exact heap_setCells_other hj _ _ _
            replace hBw := hb9 _ _ hwN hBw
            replace hS := hS00.then hBw
            replace hch : ChrAt V9 gC (48 + i) := hch.kept (hk9 _ (fun q => chr_ne hch hz q)) (hb9 0 w4 (Nat.zero_le _) (Below.refl _ _)).size
            replace hgr : OwnR 119 2 gcl V9 wr.heap.size x0.av x0.n.acl := by rw [hx0]; exact hgr.keep fun j hj => hk9 j (fun q => hneA (by rw [hj, q]))
            replace hwo : OwnR 2 1 wcl V9 wr.heap.size x0.wv x0.n.words := by rw [hx0]; exact hwo.keep fun j hj => hk9 j (fun q => hneW (by rw [hj, q]))
            replace hneA : x0.av.ownBlock ≠ some gN := by rw [hx0]; exact hneA
            replace hneW : x0.wv.ownBlock ≠ some gN := by rw [hx0]; exact hneW
            replace hneG : ∀ g, x0.wv.ownBlock = some g → x0.av.ownBlock ≠ some g := by rw [hx0]; exact fun g h9 h8 => hneG (by have h7 : gA = g := Option.some.inj h8; rw [h7]; exact h9)
            replace hx0 : Aside (x0.n = segX (D ++ slpS ++ dgS i) d1.n.label 7 ⟨4, 4, 4, 0⟩ (wordsN pp.is)) := by rw [hx0]; exact rfl
            clear hk9 hth9 hb9 hV9 hxs hxl hz
            refine hK.out _ _ (⟨hS, hch⟩) ?_
            clear hHeld hK
            intro hHeld
            (try simp only [Act.put, zsA, zsB, zsC])
            refine wpAnyH_done (by kernel_rfl) ?_ _
            clear hHeld
            go_wp2_with fail
            go_meet
            exact ⟨gN, x0, rfl, hBw, hgo, hwN, hx0.out, hgr, hwo, hneA, hneW, hneG⟩
          refine tkC (fun K hK => ?_) ?_
          · skip
            have hb := alloc_below w1 (.cells (gcl ⟨starS, 7⟩).toArray 119)
            refine step_build1 gr_okT (by decide) rfl _ rfl (gcl ⟨starS, 7⟩) rfl rfl ?_
            (try simp only [Act.put, zsA, zsB, zsC])
            refine hK.out _ _ (hS.then hb) ?_
            clear hHeld hK
            intro hHeld
            have hgr : OwnR 119 2 gcl (w1.alloc (.cells (gcl ⟨starS, 7⟩).toArray 119)) wr.heap.size (.slice (some ⟨w1.heap.size, 0, none⟩) 1 1) [⟨starS, 7⟩] := own_oneP gr_okT w1 hBw.size ⟨starS, 7⟩
            have hneG : (Value.slice va (wordsN pp.is).length vc).ownBlock ≠ some w1.heap.size := fun q => by have := (hwo.lt q).2; omega
            replace hBw := Below.then hBw hb
            replace hS := hS.then hb
            replace hwo := hwo.below hb
            generalize w1.alloc (.cells (gcl ⟨starS, 7⟩).toArray 119) = w2 at *
            generalize w1.heap.size = gA at *
            clear hb
            (try simp only [Act.put, zsA, zsB, zsC])
            refine tkR (rs := [5, 19]) ?_
            refine tkC (fun K hK => ?_) ?_
            · go_simp
              have hb := alloc_below w2 (.cells #[.int .u8 (48 + (i : Int))] 5)
              refine hK.out _ _ (hS.then hb) ?_
              clear hHeld hK
              intro hHeld
              have hch : ChrAt (w2.alloc (.cells #[.int .u8 (48 + (i : Int))] 5)) w2.heap.size (48 + i) := chr_made2 w2 i (by omega)
              replace hBw := Below.then hBw hb
              replace hS := hS.then hb
              replace hgr := hgr.below hb
              replace hwo := hwo.below hb
              generalize w2.alloc (.cells #[.int .u8 (48 + (i : Int))] 5) = w3 at *
              generalize w2.heap.size = gC at *
              clear hb
              refine wpAnyH_strong (S' := fun W => PX wr nd d1 yp i pp W ∧ ChrAt W gC (48 + i)) (fun _ h => h.1) ?_
              replace hHeld : PX wr nd d1 yp i pp w3 ∧ ChrAt w3 gC (48 + i) := ⟨hS, hch⟩
              (try simp only [Act.put, zsA, zsB, zsC])
              refine tkB 6 (y := yields_conv (by rfl) _ rfl rfl (fun _ s => s.2.conv)) (h := ?_)
              refine tkA 7 ?_
              refine tkA 18 ?_
              refine tkR (rs := [19]) ?_
              refine tkC (fun K hK => ?_) AllReadyH.nil
              have hb := alloc_below w3 (.cells ZNP 36)
              refine step_allocC (z := ZNP) rfl rfl (fun _ => rfl) ?_
              (try simp only [Act.put, zsA, zsB, zsC])
              refine hK.out _ _ (⟨hS.then hb, hch.below hb⟩) ?_
              clear hHeld hK
              intro hHeld
              have hz : BlkL w3.heap.size zeroP.cs (w3.alloc (.cells ZNP 36)) := blkl_alloc w3 ZNP 36
              have hwN : wr.heap.size ≤ w3.heap.size := hBw.size
              have hneA : (Value.slice (some ⟨gA, 0, none⟩) 1 1).ownBlock ≠ some w3.heap.size := fun q => by have h9 : gA = w3.heap.size := Option.some.inj q; have h8 : gA < w3.heap.size := (hgr.lt rfl).2; omega
              have hneW : (Value.slice va (wordsN pp.is).length vc).ownBlock ≠ some w3.heap.size := fun q => by have := (hwo.lt q).2; omega
              replace hBw := Below.then hBw hb
              replace hS := hS.then hb
              replace hch := hch.below hb
              replace hgr := hgr.below hb
              replace hwo := hwo.below hb
              generalize w3.alloc (.cells ZNP 36) = w4 at *
              generalize w3.heap.size = gN at *
              clear hb
              (try simp only [Act.put, zsA, zsB, zsC])
              refine tkR (rs := [20]) ?_
              refine tkC (fun K hK => ?_) AllReadyH.nil
              obtain ⟨x0, hx0⟩ : ∃ x0 : PN, x0 = ⟨segX (D ++ slpS ++ dgS i) d1.n.label 7 ⟨4, 4, 4, 0⟩ (wordsN pp.is), some ⟨gA, 0, none⟩, 1, va, vc⟩ := ⟨_, rfl⟩
              have hxl : x0.cs.length = 16 := pn_len x0
              have hxs : (Tryz.prog.info? 36).map (·.size) = some x0.cs.length := by rw [hxl]; exact hszN
              obtain ⟨V9, hV9, hth9, hgo, hb9⟩ := put_any hz (ds := x0.cs) (by rw [hxl]; rfl) (by rw [hxl]; decide)
              refine step_store_rowC rfl _ _ rfl gN rfl x0.cs (by rw [hx0]; rfl) hth9 hxs (pn_one x0) hV9 ?_
              (try simp only [Act.put, zsA, zsB, zsC])
              have hk9 : ∀ j, j ≠ gN → V9.heap[j]? = w4.heap[j]? := fun j hj => by rw [← hV9]; exact heap_setCells_other hj _ _ _
              replace hBw := hb9 _ _ hwN hBw
              replace hS := hS00.then hBw
              replace hch : ChrAt V9 gC (48 + i) := hch.kept (hk9 _ (fun q => chr_ne hch hz q)) (hb9 0 w4 (Nat.zero_le _) (Below.refl _ _)).size
              replace hgr : OwnR 119 2 gcl V9 wr.heap.size x0.av x0.n.acl := by rw [hx0]; exact hgr.keep fun j hj => hk9 j (fun q => hneA (by rw [hj, q]))
              replace hwo : OwnR 2 1 wcl V9 wr.heap.size x0.wv x0.n.words := by rw [hx0]; exact hwo.keep fun j hj => hk9 j (fun q => hneW (by rw [hj, q]))
              replace hneA : x0.av.ownBlock ≠ some gN := by rw [hx0]; exact hneA
              replace hneW : x0.wv.ownBlock ≠ some gN := by rw [hx0]; exact hneW
              replace hneG : ∀ g, x0.wv.ownBlock = some g → x0.av.ownBlock ≠ some g := by rw [hx0]; exact fun g h9 h8 => hneG (by have h7 : gA = g := Option.some.inj h8; rw [h7]; exact h9)
              replace hx0 : Aside (x0.n = segX (D ++ slpS ++ dgS i) d1.n.label 7 ⟨4, 4, 4, 0⟩ (wordsN pp.is)) := by rw [hx0]; exact rfl
              clear hk9 hth9 hb9 hV9 hxs hxl hz
              refine hK.out _ _ (⟨hS, hch⟩) ?_
              clear hHeld hK
              intro hHeld
              (try simp only [Act.put, zsA, zsB, zsC])
              refine wpAnyH_done (by kernel_rfl) ?_ _
              clear hHeld
              go_wp2_with fail
              go_meet
              exact ⟨gN, x0, rfl, hBw, hgo, hwN, hx0.out, hgr, hwo, hneA, hneW, hneG⟩
            refine tkC (fun K hK => ?_) AllReadyH.nil
            have hb := alloc_below w2 (.cells ZNP 36)
            refine step_allocC (z := ZNP) rfl rfl (fun _ => rfl) ?_
            (try simp only [Act.put, zsA, zsB, zsC])
            refine hK.out _ _ (hS.then hb) ?_
            clear hHeld hK
            intro hHeld
            have hz : BlkL w2.heap.size zeroP.cs (w2.alloc (.cells ZNP 36)) := blkl_alloc w2 ZNP 36
            have hwN : wr.heap.size ≤ w2.heap.size := hBw.size
            have hneA : (Value.slice (some ⟨gA, 0, none⟩) 1 1).ownBlock ≠ some w2.heap.size := fun q => by have h9 : gA = w2.heap.size := Option.some.inj q; have h8 : gA < w2.heap.size := (hgr.lt rfl).2; omega
            have hneW : (Value.slice va (wordsN pp.is).length vc).ownBlock ≠ some w2.heap.size := fun q => by have := (hwo.lt q).2; omega
            replace hBw := Below.then hBw hb
            replace hS := hS.then hb
            replace hgr := hgr.below hb
            replace hwo := hwo.below hb
            generalize w2.alloc (.cells ZNP 36) = w3 at *
            generalize w2.heap.size = gN at *
            clear hb
            (try simp only [Act.put, zsA, zsB, zsC])
            refine tkR (rs := [5]) ?_
            refine tkC (fun K hK => ?_) AllReadyH.nil
            go_simp
            have hb := alloc_below w3 (.cells #[.int .u8 (48 + (i : Int))] 5)
            refine hK.out _ _ (hS.then hb) ?_
            clear hHeld hK
            intro hHeld
            have hch : ChrAt (w3.alloc (.cells #[.int .u8 (48 + (i : Int))] 5)) w3.heap.size (48 + i) := chr_made2 w3 i (by omega)
            replace hBw := Below.then hBw hb
            replace hS := hS.then hb
            replace hgr := hgr.below hb
            replace hwo := hwo.below hb
            replace hz := stab_blk _ _ _ _ hz hb
            generalize w3.alloc (.cells #[.int .u8 (48 + (i : Int))] 5) = w4 at *
            generalize w3.heap.size = gC at *
            clear hb
            refine wpAnyH_strong (S' := fun W => PX wr nd d1 yp i pp W ∧ ChrAt W gC (48 + i)) (fun _ h => h.1) ?_
            replace hHeld : PX wr nd d1 yp i pp w4 ∧ ChrAt w4 gC (48 + i) := ⟨hS, hch⟩
            (try simp only [Act.put, zsA, zsB, zsC])
            refine tkB 6 (y := yields_conv (by rfl) _ rfl rfl (fun _ s => s.2.conv)) (h := ?_)
            refine tkA 7 ?_
            refine tkA 18 ?_
            refine tkR (rs := [20]) ?_
            refine tkC (fun K hK => ?_) AllReadyH.nil
            obtain ⟨x0, hx0⟩ : ∃ x0 : PN, x0 = ⟨segX (D ++ slpS ++ dgS i) d1.n.label 7 ⟨4, 4, 4, 0⟩ (wordsN pp.is), some ⟨gA, 0, none⟩, 1, va, vc⟩ := ⟨_, rfl⟩
            have hxl : x0.cs.length = 16 := pn_len x0
            have hxs : (Tryz.prog.info? 36).map (·.size) = some x0.cs.length := by rw [hxl]; exact hszN
            obtain ⟨V9, hV9, hth9, hgo, hb9⟩ := put_any hz (ds := x0.cs) (by rw [hxl]; rfl) (by rw [hxl]; decide)
            refine step_store_rowC rfl _ _ rfl gN rfl x0.cs (by rw [hx0]; rfl) hth9 hxs (pn_one x0) hV9 ?_
            (try simp only [Act.put, zsA, zsB, zsC])
            have hk9 : ∀ j, j ≠ gN → V9.heap[j]? = w4.heap[j]? := fun j hj => by rw [← hV9]; exact heap_setCells_other hj _ _ _
            replace hBw := hb9 _ _ hwN hBw
            replace hS := hS00.then hBw
            replace hch : ChrAt V9 gC (48 + i) := hch.kept (hk9 _ (fun q => chr_ne hch hz q)) (hb9 0 w4 (Nat.zero_le _) (Below.refl _ _)).size
            replace hgr : OwnR 119 2 gcl V9 wr.heap.size x0.av x0.n.acl := by rw [hx0]; exact hgr.keep fun j hj => hk9 j (fun q => hneA (by rw [hj, q]))
            replace hwo : OwnR 2 1 wcl V9 wr.heap.size x0.wv x0.n.words := by rw [hx0]; exact hwo.keep fun j hj => hk9 j (fun q => hneW (by rw [hj, q]))
            replace hneA : x0.av.ownBlock ≠ some gN := by rw [hx0]; exact hneA
            replace hneW : x0.wv.ownBlock ≠ some gN := by rw [hx0]; exact hneW
            replace hneG : ∀ g, x0.wv.ownBlock = some g → x0.av.ownBlock ≠ some g := by rw [hx0]; exact fun g h9 h8 => hneG (by have h7 : gA = g := Option.some.inj h8; rw [h7]; exact h9)
            replace hx0 : Aside (x0.n = segX (D ++ slpS ++ dgS i) d1.n.label 7 ⟨4, 4, 4, 0⟩ (wordsN pp.is)) := by rw [hx0]; exact rfl
            clear hk9 hth9 hb9 hV9 hxs hxl hz
            refine hK.out _ _ (⟨hS, hch⟩) ?_
            clear hHeld hK
            intro hHeld
            (try simp only [Act.put, zsA, zsB, zsC])
            refine wpAnyH_done (by kernel_rfl) ?_ _
            clear hHeld
            go_wp2_with fail
            go_meet
            exact ⟨gN, x0, rfl, hBw, hgo, hwN, hx0.out, hgr, hwo, hneA, hneW, hneG⟩
          refine tkC (fun K hK => ?_) AllReadyH.nil
          have hb := alloc_below w1 (.cells ZNP 36)
          refine step_allocC (z := ZNP) rfl rfl (fun _ => rfl) ?_
          (try simp only [Act.put, zsA, zsB, zsC])
          refine hK.out _ _ (hS.then hb) ?_
          clear hHeld hK
          intro hHeld
          have hz : BlkL w1.heap.size zeroP.cs (w1.alloc (.cells ZNP 36)) := blkl_alloc w1 ZNP 36
          have hwN : wr.heap.size ≤ w1.heap.size := hBw.size
          have hneW : (Value.slice va (wordsN pp.is).length vc).ownBlock ≠ some w1.heap.size := fun q => by have := (hwo.lt q).2; omega
          replace hBw := Below.then hBw hb
          replace hS := hS.then hb
          replace hwo := hwo.below hb
          generalize w1.alloc (.cells ZNP 36) = w2 at *
          generalize w1.heap.size = gN at *
          clear hb
          (try simp only [Act.put, zsA, zsB, zsC])
          refine tkR (rs := [5, 11]) ?_
          refine tkC (fun K hK => ?_) ?_
          · go_simp
            have hb := alloc_below w2 (.cells #[.int .u8 (48 + (i : Int))] 5)
            refine hK.out _ _ (hS.then hb) ?_
            clear hHeld hK
            intro hHeld
            have hch : ChrAt (w2.alloc (.cells #[.int .u8 (48 + (i : Int))] 5)) w2.heap.size (48 + i) := chr_made2 w2 i (by omega)
            replace hBw := Below.then hBw hb
            replace hS := hS.then hb
            replace hwo := hwo.below hb
            replace hz := stab_blk _ _ _ _ hz hb
            generalize w2.alloc (.cells #[.int .u8 (48 + (i : Int))] 5) = w3 at *
            generalize w2.heap.size = gC at *
            clear hb
            refine wpAnyH_strong (S' := fun W => PX wr nd d1 yp i pp W ∧ ChrAt W gC (48 + i)) (fun _ h => h.1) ?_
            replace hHeld : PX wr nd d1 yp i pp w3 ∧ ChrAt w3 gC (48 + i) := ⟨hS, hch⟩
            (try simp only [Act.put, zsA, zsB, zsC])
            refine tkB 6 (y := yields_conv (by rfl) _ rfl rfl (fun _ s => s.2.conv)) (h := ?_)
            refine tkA 7 ?_
            refine tkR (rs := [11]) ?_
            refine tkC (fun K hK => ?_) AllReadyH.nil
            have hb := alloc_below w3 (.cells (gcl ⟨starS, 7⟩).toArray 119)
            refine step_build1 gr_okT (by decide) rfl _ rfl (gcl ⟨starS, 7⟩) rfl rfl ?_
            (try simp only [Act.put, zsA, zsB, zsC])
            refine hK.out _ _ (⟨hS.then hb, hch.below hb⟩) ?_
            clear hHeld hK
            intro hHeld
            have hgr : OwnR 119 2 gcl (w3.alloc (.cells (gcl ⟨starS, 7⟩).toArray 119)) wr.heap.size (.slice (some ⟨w3.heap.size, 0, none⟩) 1 1) [⟨starS, 7⟩] := own_oneP gr_okT w3 hBw.size ⟨starS, 7⟩
            have hneA : (Value.slice (some ⟨w3.heap.size, 0, none⟩) 1 1).ownBlock ≠ some gN := fun q => by have h9 : w3.heap.size = gN := Option.some.inj q; have h8 := hz.2; omega
            have hneG : (Value.slice va (wordsN pp.is).length vc).ownBlock ≠ some w3.heap.size := fun q => by have := (hwo.lt q).2; omega
            replace hBw := Below.then hBw hb
            replace hS := hS.then hb
            replace hch := hch.below hb
            replace hwo := hwo.below hb
            replace hz := stab_blk _ _ _ _ hz hb
            generalize w3.alloc (.cells (gcl ⟨starS, 7⟩).toArray 119) = w4 at *
            generalize w3.heap.size = gA at *
            clear hb
            (try simp only [Act.put, zsA, zsB, zsC])
            refine tkA 18 ?_
            refine tkR (rs := [20]) ?_
            refine tkC (fun K hK => ?_) AllReadyH.nil
            obtain ⟨x0, hx0⟩ : ∃ x0 : PN, x0 = ⟨segX (D ++ slpS ++ dgS i) d1.n.label 7 ⟨4, 4, 4, 0⟩ (wordsN pp.is), some ⟨gA, 0, none⟩, 1, va, vc⟩ := ⟨_, rfl⟩
            have hxl : x0.cs.length = 16 := pn_len x0
            have hxs : (Tryz.prog.info? 36).map (·.size) = some x0.cs.length := by rw [hxl]; exact hszN
            obtain ⟨V9, hV9, hth9, hgo, hb9⟩ := put_any hz (ds := x0.cs) (by rw [hxl]; rfl) (by rw [hxl]; decide)
            refine step_store_rowC rfl _ _ rfl gN rfl x0.cs (by rw [hx0]; rfl) hth9 hxs (pn_one x0) hV9 ?_
            (try simp only [Act.put, zsA, zsB, zsC])
            have hk9 : ∀ j, j ≠ gN → V9.heap[j]? = w4.heap[j]? := fun j hj => by rw [← hV9]; exact heap_setCells_other hj _ _ _
            replace hBw := hb9 _ _ hwN hBw
            replace hS := hS00.then hBw
            replace hch : ChrAt V9 gC (48 + i) := hch.kept (hk9 _ (fun q => chr_ne hch hz q)) (hb9 0 w4 (Nat.zero_le _) (Below.refl _ _)).size
            replace hgr : OwnR 119 2 gcl V9 wr.heap.size x0.av x0.n.acl := by rw [hx0]; exact hgr.keep fun j hj => hk9 j (fun q => hneA (by rw [hj, q]))
            replace hwo : OwnR 2 1 wcl V9 wr.heap.size x0.wv x0.n.words := by rw [hx0]; exact hwo.keep fun j hj => hk9 j (fun q => hneW (by rw [hj, q]))
            replace hneA : x0.av.ownBlock ≠ some gN := by rw [hx0]; exact hneA
            replace hneW : x0.wv.ownBlock ≠ some gN := by rw [hx0]; exact hneW
            replace hneG : ∀ g, x0.wv.ownBlock = some g → x0.av.ownBlock ≠ some g := by rw [hx0]; exact fun g h9 h8 => hneG (by have h7 : gA = g := Option.some.inj h8; rw [h7]; exact h9)
            replace hx0 : Aside (x0.n = segX (D ++ slpS ++ dgS i) d1.n.label 7 ⟨4, 4, 4, 0⟩ (wordsN pp.is)) := by rw [hx0]; exact rfl
            clear hk9 hth9 hb9 hV9 hxs hxl hz
            refine hK.out _ _ (⟨hS, hch⟩) ?_
            clear hHeld hK
            intro hHeld
            (try simp only [Act.put, zsA, zsB, zsC])
            refine wpAnyH_done (by kernel_rfl) ?_ _
            clear hHeld
            go_wp2_with fail
            go_meet
            exact ⟨gN, x0, rfl, hBw, hgo, hwN, hx0.out, hgr, hwo, hneA, hneW, hneG⟩
          refine tkC (fun K hK => ?_) AllReadyH.nil
          have hb := alloc_below w2 (.cells (gcl ⟨starS, 7⟩).toArray 119)
          refine step_build1 gr_okT (by decide) rfl _ rfl (gcl ⟨starS, 7⟩) rfl rfl ?_
          (try simp only [Act.put, zsA, zsB, zsC])
          refine hK.out _ _ (hS.then hb) ?_
          clear hHeld hK
          intro hHeld
          have hgr : OwnR 119 2 gcl (w2.alloc (.cells (gcl ⟨starS, 7⟩).toArray 119)) wr.heap.size (.slice (some ⟨w2.heap.size, 0, none⟩) 1 1) [⟨starS, 7⟩] := own_oneP gr_okT w2 hBw.size ⟨starS, 7⟩
          have hneA : (Value.slice (some ⟨w2.heap.size, 0, none⟩) 1 1).ownBlock ≠ some gN := fun q => by have h9 : w2.heap.size = gN := Option.some.inj q; have h8 := hz.2; omega
          have hneG : (Value.slice va (wordsN pp.is).length vc).ownBlock ≠ some w2.heap.size := fun q => by have := (hwo.lt q).2; omega
          replace hBw := Below.then hBw hb
          replace hS := hS.then hb
          replace hwo := hwo.below hb
          replace hz := stab_blk _ _ _ _ hz hb
          generalize w2.alloc (.cells (gcl ⟨starS, 7⟩).toArray 119) = w3 at *
          generalize w2.heap.size = gA at *
          clear hb
          (try simp only [Act.put, zsA, zsB, zsC])
          refine tkR (rs := [5]) ?_
          refine tkC (fun K hK => ?_) AllReadyH.nil
          go_simp
          have hb := alloc_below w3 (.cells #[.int .u8 (48 + (i : Int))] 5)
          refine hK.out _ _ (hS.then hb) ?_
          clear hHeld hK
          intro hHeld
          have hch : ChrAt (w3.alloc (.cells #[.int .u8 (48 + (i : Int))] 5)) w3.heap.size (48 + i) := chr_made2 w3 i (by omega)
          replace hBw := Below.then hBw hb
          replace hS := hS.then hb
          replace hgr := hgr.below hb
          replace hwo := hwo.below hb
          replace hz := stab_blk _ _ _ _ hz hb
          generalize w3.alloc (.cells #[.int .u8 (48 + (i : Int))] 5) = w4 at *
          generalize w3.heap.size = gC at *
          clear hb
          refine wpAnyH_strong (S' := fun W => PX wr nd d1 yp i pp W ∧ ChrAt W gC (48 + i)) (fun _ h => h.1) ?_
          replace hHeld : PX wr nd d1 yp i pp w4 ∧ ChrAt w4 gC (48 + i) := ⟨hS, hch⟩
          (try simp only [Act.put, zsA, zsB, zsC])
          refine tkB 6 (y := yields_conv (by rfl) _ rfl rfl (fun _ s => s.2.conv)) (h := ?_)
          refine tkA 7 ?_
          refine tkA 18 ?_
          refine tkR (rs := [20]) ?_
          refine tkC (fun K hK => ?_) AllReadyH.nil
          obtain ⟨x0, hx0⟩ : ∃ x0 : PN, x0 = ⟨segX (D ++ slpS ++ dgS i) d1.n.label 7 ⟨4, 4, 4, 0⟩ (wordsN pp.is), some ⟨gA, 0, none⟩, 1, va, vc⟩ := ⟨_, rfl⟩
          have hxl : x0.cs.length = 16 := pn_len x0
          have hxs : (Tryz.prog.info? 36).map (·.size) = some x0.cs.length := by rw [hxl]; exact hszN
          obtain ⟨V9, hV9, hth9, hgo, hb9⟩ := put_any hz (ds := x0.cs) (by rw [hxl]; rfl) (by rw [hxl]; decide)
          refine step_store_rowC rfl _ _ rfl gN rfl x0.cs (by rw [hx0]; rfl) hth9 hxs (pn_one x0) hV9 ?_
          (try simp only [Act.put, zsA, zsB, zsC])
          have hk9 : ∀ j, j ≠ gN → V9.heap[j]? = w4.heap[j]? := fun j hj => by rw [← hV9]; exact heap_setCells_other hj _ _ _
          replace hBw := hb9 _ _ hwN hBw
          replace hS := hS00.then hBw
          replace hch : ChrAt V9 gC (48 + i) := hch.kept (hk9 _ (fun q => chr_ne hch hz q)) (hb9 0 w4 (Nat.zero_le _) (Below.refl _ _)).size
          replace hgr : OwnR 119 2 gcl V9 wr.heap.size x0.av x0.n.acl := by rw [hx0]; exact hgr.keep fun j hj => hk9 j (fun q => hneA (by rw [hj, q]))
          replace hwo : OwnR 2 1 wcl V9 wr.heap.size x0.wv x0.n.words := by rw [hx0]; exact hwo.keep fun j hj => hk9 j (fun q => hneW (by rw [hj, q]))
          replace hneA : x0.av.ownBlock ≠ some gN := by rw [hx0]; exact hneA
          replace hneW : x0.wv.ownBlock ≠ some gN := by rw [hx0]; exact hneW
          replace hneG : ∀ g, x0.wv.ownBlock = some g → x0.av.ownBlock ≠ some g := by rw [hx0]; exact fun g h9 h8 => hneG (by have h7 : gA = g := Option.some.inj h8; rw [h7]; exact h9)
          replace hx0 : Aside (x0.n = segX (D ++ slpS ++ dgS i) d1.n.label 7 ⟨4, 4, 4, 0⟩ (wordsN pp.is)) := by rw [hx0]; exact rfl
          clear hk9 hth9 hb9 hV9 hxs hxl hz
          refine hK.out _ _ (⟨hS, hch⟩) ?_
          clear hHeld hK
          intro hHeld
          (try simp only [Act.put, zsA, zsB, zsC])
          refine wpAnyH_done (by kernel_rfl) ?_ _
          clear hHeld
          go_wp2_with fail
          go_meet
          exact ⟨gN, x0, rfl, hBw, hgo, hwN, hx0.out, hgr, hwo, hneA, hneW, hneG⟩
        refine tkC (fun K hK => ?_) AllReadyH.nil
        have hb := alloc_below w0 (.cells ZNP 36)
        refine step_allocC (z := ZNP) rfl rfl (fun _ => rfl) ?_
        (try simp only [Act.put, zsA, zsB, zsC])
        refine hK.out _ _ (hS.then hb) ?_
        clear hHeld hK
        intro hHeld
        have hz : BlkL w0.heap.size zeroP.cs (w0.alloc (.cells ZNP 36)) := blkl_alloc w0 ZNP 36
        have hwN : wr.heap.size ≤ w0.heap.size := hBw.size
        replace hBw := Below.then hBw hb
        replace hS := hS.then hb
        generalize w0.alloc (.cells ZNP 36) = w1 at *
        generalize w0.heap.size = gN at *
        clear hb
        (try simp only [Act.put, zsA, zsB, zsC])
        refine tkR (rs := [5, 11, 17]) ?_
        refine tkC (fun K hK => ?_) ?_
        · go_simp
          have hb := alloc_below w1 (.cells #[.int .u8 (48 + (i : Int))] 5)
          refine hK.out _ _ (hS.then hb) ?_
          clear hHeld hK
          intro hHeld
          have hch : ChrAt (w1.alloc (.cells #[.int .u8 (48 + (i : Int))] 5)) w1.heap.size (48 + i) := chr_made2 w1 i (by omega)
          replace hBw := Below.then hBw hb
          replace hS := hS.then hb
          replace hz := stab_blk _ _ _ _ hz hb
          generalize w1.alloc (.cells #[.int .u8 (48 + (i : Int))] 5) = w2 at *
          generalize w1.heap.size = gC at *
          clear hb
          refine wpAnyH_strong (S' := fun W => PX wr nd d1 yp i pp W ∧ ChrAt W gC (48 + i)) (fun _ h => h.1) ?_
          replace hHeld : PX wr nd d1 yp i pp w2 ∧ ChrAt w2 gC (48 + i) := ⟨hS, hch⟩
          (try simp only [Act.put, zsA, zsB, zsC])
          refine tkB 6 (y := yields_conv (by rfl) _ rfl rfl (fun _ s => s.2.conv)) (h := ?_)
          refine tkA 7 ?_
          refine tkR (rs := [11, 17]) ?_
          refine tkC (fun K hK => ?_) ?_
          · skip
            have hb := alloc_below w2 (.cells (gcl ⟨starS, 7⟩).toArray 119)
            refine step_build1 gr_okT (by decide) rfl _ rfl (gcl ⟨starS, 7⟩) rfl rfl ?_
            (try simp only [Act.put, zsA, zsB, zsC])
            refine hK.out _ _ (⟨hS.then hb, hch.below hb⟩) ?_
            clear hHeld hK
            intro hHeld
            have hgr : OwnR 119 2 gcl (w2.alloc (.cells (gcl ⟨starS, 7⟩).toArray 119)) wr.heap.size (.slice (some ⟨w2.heap.size, 0, none⟩) 1 1) [⟨starS, 7⟩] := own_oneP gr_okT w2 hBw.size ⟨starS, 7⟩
            have hneA : (Value.slice (some ⟨w2.heap.size, 0, none⟩) 1 1).ownBlock ≠ some gN := fun q => by have h9 : w2.heap.size = gN := Option.some.inj q; have h8 := hz.2; omega
            replace hBw := Below.then hBw hb
            replace hS := hS.then hb
            replace hch := hch.below hb
            replace hz := stab_blk _ _ _ _ hz hb
            generalize w2.alloc (.cells (gcl ⟨starS, 7⟩).toArray 119) = w3 at *
            generalize w2.heap.size = gA at *
            clear hb
            (try simp only [Act.put, zsA, zsB, zsC])
            refine tkR (rs := [17]) ?_
            refine tkC (fun K hK => ?_) AllReadyH.nil
            go_simp
            go_at_call 42
            refine (kwd w3 (hpA'.below in_okW.len (Below.then hBr hBw))).mono ?_
            rintro e w4 ⟨vw, rfl, hwo, hb⟩
            obtain ⟨va, vc, hvw, -, -, -⟩ := hwo.slice wd_okC.len
            subst hvw
            have hBw0 : wr.heap.size ≤ w3.heap.size := hBw.size
            have hneW : (Value.slice va (wordsN pp.is).length vc).ownBlock ≠ some gN := fun q => by have h9 := (hwo.lt q).1; have h8 := hz.2; omega
            have hneG : (Value.slice va (wordsN pp.is).length vc).ownBlock ≠ some gA := fun q => by have h9 := (hwo.lt q).1; have h8 : gA < w3.heap.size := (hgr.lt rfl).2; omega
            replace hBw := Below.then hBw hb
            replace hS := hS.then hb
            replace hch := hch.below hb
            replace hgr := hgr.below hb
            replace hz := stab_blk _ _ _ _ hz hb
            replace hwo : OwnR 2 1 wcl w4 wr.heap.size (Value.slice va (wordsN pp.is).length vc) (wordsN pp.is) := hwo.lower hBw0
            clear hb hBw0
            refine hK.out _ _ (⟨hS, hch⟩) ?_
            clear hHeld hK
            intro hHeld
            (try simp only [Act.put, zsA, zsB, zsC])
            refine tkA 18 ?_
            refine tkR (rs := [20]) ?_
            refine tkC (fun K hK => ?_) AllReadyH.nil
            obtain ⟨x0, hx0⟩ : ∃ x0 : PN, x0 = ⟨segX (D ++ slpS ++ dgS i) d1.n.label 7 ⟨4, 4, 4, 0⟩ (wordsN pp.is), some ⟨gA, 0, none⟩, 1, va, vc⟩ := ⟨_, rfl⟩
            have hxl : x0.cs.length = 16 := pn_len x0
            have hxs : (Tryz.prog.info? 36).map (·.size) = some x0.cs.length := by rw [hxl]; exact hszN
            obtain ⟨V9, hV9, hth9, hgo, hb9⟩ := put_any hz (ds := x0.cs) (by rw [hxl]; rfl) (by rw [hxl]; decide)
            refine step_store_rowC rfl _ _ rfl gN rfl x0.cs (by rw [hx0]; rfl) hth9 hxs (pn_one x0) hV9 ?_
            (try simp only [Act.put, zsA, zsB, zsC])
            have hk9 : ∀ j, j ≠ gN → V9.heap[j]? = w4.heap[j]? := fun j hj => by rw [← hV9]; exact heap_setCells_other hj _ _ _
            replace hBw := hb9 _ _ hwN hBw
            replace hS := hS00.then hBw
            replace hch : ChrAt V9 gC (48 + i) := hch.kept (hk9 _ (fun q => chr_ne hch hz q)) (hb9 0 w4 (Nat.zero_le _) (Below.refl _ _)).size
            replace hgr : OwnR 119 2 gcl V9 wr.heap.size x0.av x0.n.acl := by rw [hx0]; exact hgr.keep fun j hj => hk9 j (fun q => hneA (by rw [hj, q]))
            replace hwo : OwnR 2 1 wcl V9 wr.heap.size x0.wv x0.n.words := by rw [hx0]; exact hwo.keep fun j hj => hk9 j (fun q => hneW (by rw [hj, q]))
            replace hneA : x0.av.ownBlock ≠ some gN := by rw [hx0]; exact hneA
            replace hneW : x0.wv.ownBlock ≠ some gN := by rw [hx0]; exact hneW
            replace hneG : ∀ g, x0.wv.ownBlock = some g → x0.av.ownBlock ≠ some g := by rw [hx0]; exact fun g h9 h8 => hneG (by have h7 : gA = g := Option.some.inj h8; rw [h7]; exact h9)
            replace hx0 : Aside (x0.n = segX (D ++ slpS ++ dgS i) d1.n.label 7 ⟨4, 4, 4, 0⟩ (wordsN pp.is)) := by rw [hx0]; exact rfl
            clear hk9 hth9 hb9 hV9 hxs hxl hz
            refine hK.out _ _ (⟨hS, hch⟩) ?_
            clear hHeld hK
            intro hHeld
            (try simp only [Act.put, zsA, zsB, zsC])
            refine wpAnyH_done (by kernel_rfl) ?_ _
            clear hHeld
            go_wp2_with fail
            go_meet
            exact ⟨gN, x0, rfl, hBw, hgo, hwN, hx0.out, hgr, hwo, hneA, hneW, hneG⟩
          refine tkC (fun K hK => ?_) AllReadyH.nil
          go_simp
          go_at_call 42
          refine (kwd w2 (hpA'.below in_okW.len (Below.then hBr hBw))).mono ?_
          rintro e w3 ⟨vw, rfl, hwo, hb⟩
          obtain ⟨va, vc, hvw, -, -, -⟩ := hwo.slice wd_okC.len
          subst hvw
          have hBw0 : wr.heap.size ≤ w2.heap.size := hBw.size
          have hneW : (Value.slice va (wordsN pp.is).length vc).ownBlock ≠ some gN := fun q => by have h9 := (hwo.lt q).1; have h8 := hz.2; omega
          replace hBw := Below.then hBw hb
          replace hS := hS.then hb
          replace hch := hch.below hb
          replace hz := stab_blk _ _ _ _ hz hb
          replace hwo : OwnR 2 1 wcl w3 wr.heap.size (Value.slice va (wordsN pp.is).length vc) (wordsN pp.is) := hwo.lower hBw0
          clear hb hBw0
          refine hK.out _ _ (⟨hS, hch⟩) ?_
          clear hHeld hK
          intro hHeld
          (try simp only [Act.put, zsA, zsB, zsC])
          refine tkR (rs := [11]) ?_
          refine tkC (fun K hK => ?_) AllReadyH.nil
          have hb := alloc_below w3 (.cells (gcl ⟨starS, 7⟩).toArray 119)
          refine step_build1 gr_okT (by decide) rfl _ rfl (gcl ⟨starS, 7⟩) rfl rfl ?_
          (try simp only [Act.put, zsA, zsB, zsC])
          refine hK.out _ _ (⟨hS.then hb, hch.below hb⟩) ?_
          clear hHeld hK
          intro hHeld
          have hgr : OwnR 119 2 gcl (w3.alloc (.cells (gcl ⟨starS, 7⟩).toArray 119)) wr.heap.size (.slice (some ⟨w3.heap.size, 0, none⟩) 1 1) [⟨starS, 7⟩] := own_oneP gr_okT w3 hBw.size ⟨starS, 7⟩
          have hneA : (Value.slice (some ⟨w3.heap.size, 0, none⟩) 1 1).ownBlock ≠ some gN := fun q => by have h9 : w3.heap.size = gN := Option.some.inj q; have h8 := hz.2; omega
          have hneG : (Value.slice va (wordsN pp.is).length vc).ownBlock ≠ some w3.heap.size := fun q => by have := (hwo.lt q).2; omega
          replace hBw := Below.then hBw hb
          replace hS := hS.then hb
          replace hch := hch.below hb
          replace hwo := hwo.below hb
          replace hz := stab_blk _ _ _ _ hz hb
          generalize w3.alloc (.cells (gcl ⟨starS, 7⟩).toArray 119) = w4 at *
          generalize w3.heap.size = gA at *
          clear hb
          (try simp only [Act.put, zsA, zsB, zsC])
          refine tkA 18 ?_
          refine tkR (rs := [20]) ?_
          refine tkC (fun K hK => ?_) AllReadyH.nil
          obtain ⟨x0, hx0⟩ : ∃ x0 : PN, x0 = ⟨segX (D ++ slpS ++ dgS i) d1.n.label 7 ⟨4, 4, 4, 0⟩ (wordsN pp.is), some ⟨gA, 0, none⟩, 1, va, vc⟩ := ⟨_, rfl⟩
          have hxl : x0.cs.length = 16 := pn_len x0
          have hxs : (Tryz.prog.info? 36).map (·.size) = some x0.cs.length := by rw [hxl]; exact hszN
          obtain ⟨V9, hV9, hth9, hgo, hb9⟩ := put_any hz (ds := x0.cs) (by rw [hxl]; rfl) (by rw [hxl]; decide)
          refine step_store_rowC rfl _ _ rfl gN rfl x0.cs (by rw [hx0]; rfl) hth9 hxs (pn_one x0) hV9 ?_
          (try simp only [Act.put, zsA, zsB, zsC])
          have hk9 : ∀ j, j ≠ gN → V9.heap[j]? = w4.heap[j]? := fun j hj => by rw [← hV9]; exact heap_setCells_other hj _ _ _
          replace hBw := hb9 _ _ hwN hBw
          replace hS := hS00.then hBw
          replace hch : ChrAt V9 gC (48 + i) := hch.kept (hk9 _ (fun q => chr_ne hch hz q)) (hb9 0 w4 (Nat.zero_le _) (Below.refl _ _)).size
          replace hgr : OwnR 119 2 gcl V9 wr.heap.size x0.av x0.n.acl := by rw [hx0]; exact hgr.keep fun j hj => hk9 j (fun q => hneA (by rw [hj, q]))
          replace hwo : OwnR 2 1 wcl V9 wr.heap.size x0.wv x0.n.words := by rw [hx0]; exact hwo.keep fun j hj => hk9 j (fun q => hneW (by rw [hj, q]))
          replace hneA : x0.av.ownBlock ≠ some gN := by rw [hx0]; exact hneA
          replace hneW : x0.wv.ownBlock ≠ some gN := by rw [hx0]; exact hneW
          replace hneG : ∀ g, x0.wv.ownBlock = some g → x0.av.ownBlock ≠ some g := by rw [hx0]; exact fun g h9 h8 => hneG (by have h7 : gA = g := Option.some.inj h8; rw [h7]; exact h9)
          replace hx0 : Aside (x0.n = segX (D ++ slpS ++ dgS i) d1.n.label 7 ⟨4, 4, 4, 0⟩ (wordsN pp.is)) := by rw [hx0]; exact rfl
          clear hk9 hth9 hb9 hV9 hxs hxl hz
          refine hK.out _ _ (⟨hS, hch⟩) ?_
          clear hHeld hK
          intro hHeld
          (try simp only [Act.put, zsA, zsB, zsC])
          refine wpAnyH_done (by kernel_rfl) ?_ _
          clear hHeld
          go_wp2_with fail
          go_meet
          exact ⟨gN, x0, rfl, hBw, hgo, hwN, hx0.out, hgr, hwo, hneA, hneW, hneG⟩
        refine tkC (fun K hK => ?_) ?_
        · skip
          have hb := alloc_below w1 (.cells (gcl ⟨starS, 7⟩).toArray 119)
          refine step_build1 gr_okT (by decide) rfl _ rfl (gcl ⟨starS, 7⟩) rfl rfl ?_
          (try simp only [Act.put, zsA, zsB, zsC])
          refine hK.out _ _ (hS.then hb) ?_
          clear hHeld hK
          intro hHeld
          have hgr : OwnR 119 2 gcl (w1.alloc (.cells (gcl ⟨starS, 7⟩).toArray 119)) wr.heap.size (.slice (some ⟨w1.heap.size, 0, none⟩) 1 1) [⟨starS, 7⟩] := own_oneP gr_okT w1 hBw.size ⟨starS, 7⟩
          have hneA : (Value.slice (some ⟨w1.heap.size, 0, none⟩) 1 1).ownBlock ≠ some gN := fun q => by have h9 : w1.heap.size = gN := Option.some.inj q; have h8 := hz.2; omega
          replace hBw := Below.then hBw hb
          replace hS := hS.then hb
          replace hz := stab_blk _ _ _ _ hz hb
          generalize w1.alloc (.cells (gcl ⟨starS, 7⟩).toArray 119) = w2 at *
          generalize w1.heap.size = gA at *
          clear hb
          (try simp only [Act.put, zsA, zsB, zsC])
          refine tkR (rs := [5, 17]) ?_
          refine tkC (fun K hK => ?_) ?_
          · go_simp
            have hb := alloc_below w2 (.cells #[.int .u8 (48 + (i : Int))] 5)
            refine hK.out _ _ (hS.then hb) ?_
            clear hHeld hK
            intro hHeld
            have hch : ChrAt (w2.alloc (.cells #[.int .u8 (48 + (i : Int))] 5)) w2.heap.size (48 + i) := chr_made2 w2 i (by omega)
            replace hBw := Below.then hBw hb
            replace hS := hS.then hb
            replace hgr := hgr.below hb
            replace hz := stab_blk _ _ _ _ hz hb
            generalize w2.alloc (.cells #[.int .u8 (48 + (i : Int))] 5) = w3 at *
            generalize w2.heap.size = gC at *
            clear hb
            refine wpAnyH_strong (S' := fun W => PX wr nd d1 yp i pp W ∧ ChrAt W gC (48 + i)) (fun _ h => h.1) ?_
            replace hHeld : PX wr nd d1 yp i pp w3 ∧ ChrAt w3 gC (48 + i) := ⟨hS, hch⟩
            (try simp only [Act.put, zsA, zsB, zsC])
            refine tkB 6 (y := yields_conv (by rfl) _ rfl rfl (fun _ s => s.2.conv)) (h := ?_)
            refine tkA 7 ?_
            refine tkR (rs := [17]) ?_
            refine tkC (fun K hK => ?_) AllReadyH.nil
            go_simp
            go_at_call 42
            refine (kwd w3 (hpA'.below in_okW.len (Below.then hBr hBw))).mono ?_
            rintro e w4 ⟨vw, rfl, hwo, hb⟩
            obtain ⟨va, vc, hvw, -, -, -⟩ := hwo.slice wd_okC.len
            subst hvw
            have hBw0 : wr.heap.size ≤ w3.heap.size := hBw.size
            have hneW : (Value.slice va (wordsN pp.is).length vc).ownBlock ≠ some gN := fun q => by have h9 := (hwo.lt q).1; have h8 := hz.2; omega
            have hneG : (Value.slice va (wordsN pp.is).length vc).ownBlock ≠ some gA := fun q => by have h9 := (hwo.lt q).1; have h8 : gA < w3.heap.size := (hgr.lt rfl).2; omega
            replace hBw := Below.then hBw hb
            replace hS := hS.then hb
            replace hch := hch.below hb
            replace hgr := hgr.below hb
            replace hz := stab_blk _ _ _ _ hz hb
            replace hwo : OwnR 2 1 wcl w4 wr.heap.size (Value.slice va (wordsN pp.is).length vc) (wordsN pp.is) := hwo.lower hBw0
            clear hb hBw0
            refine hK.out _ _ (⟨hS, hch⟩) ?_
            clear hHeld hK
            intro hHeld
            (try simp only [Act.put, zsA, zsB, zsC])
            refine tkA 18 ?_
            refine tkR (rs := [20]) ?_
            refine tkC (fun K hK => ?_) AllReadyH.nil
            obtain ⟨x0, hx0⟩ : ∃ x0 : PN, x0 = ⟨segX (D ++ slpS ++ dgS i) d1.n.label 7 ⟨4, 4, 4, 0⟩ (wordsN pp.is), some ⟨gA, 0, none⟩, 1, va, vc⟩ := ⟨_, rfl⟩
            have hxl : x0.cs.length = 16 := pn_len x0
            have hxs : (Tryz.prog.info? 36).map (·.size) = some x0.cs.length := by rw [hxl]; exact hszN
            obtain ⟨V9, hV9, hth9, hgo, hb9⟩ := put_any hz (ds := x0.cs) (by rw [hxl]; rfl) (by rw [hxl]; decide)
            refine step_store_rowC rfl _ _ rfl gN rfl x0.cs (by rw [hx0]; rfl) hth9 hxs (pn_one x0) hV9 ?_
            (try simp only [Act.put, zsA, zsB, zsC])
            have hk9 : ∀ j, j ≠ gN → V9.heap[j]? = w4.heap[j]? := fun j hj => by rw [← hV9]; exact heap_setCells_other hj _ _ _
            replace hBw := hb9 _ _ hwN hBw
            replace hS := hS00.then hBw
            replace hch : ChrAt V9 gC (48 + i) := hch.kept (hk9 _ (fun q => chr_ne hch hz q)) (hb9 0 w4 (Nat.zero_le _) (Below.refl _ _)).size
            replace hgr : OwnR 119 2 gcl V9 wr.heap.size x0.av x0.n.acl := by rw [hx0]; exact hgr.keep fun j hj => hk9 j (fun q => hneA (by rw [hj, q]))
            replace hwo : OwnR 2 1 wcl V9 wr.heap.size x0.wv x0.n.words := by rw [hx0]; exact hwo.keep fun j hj => hk9 j (fun q => hneW (by rw [hj, q]))
            replace hneA : x0.av.ownBlock ≠ some gN := by rw [hx0]; exact hneA
            replace hneW : x0.wv.ownBlock ≠ some gN := by rw [hx0]; exact hneW
            replace hneG : ∀ g, x0.wv.ownBlock = some g → x0.av.ownBlock ≠ some g := by rw [hx0]; exact fun g h9 h8 => hneG (by have h7 : gA = g := Option.some.inj h8; rw [h7]; exact h9)
            replace hx0 : Aside (x0.n = segX (D ++ slpS ++ dgS i) d1.n.label 7 ⟨4, 4, 4, 0⟩ (wordsN pp.is)) := by rw [hx0]; exact rfl
            clear hk9 hth9 hb9 hV9 hxs hxl hz
            refine hK.out _ _ (⟨hS, hch⟩) ?_
            clear hHeld hK
            intro hHeld
            (try simp only [Act.put, zsA, zsB, zsC])
            refine wpAnyH_done (by kernel_rfl) ?_ _
            clear hHeld
            go_wp2_with fail
            go_meet
            exact ⟨gN, x0, rfl, hBw, hgo, hwN, hx0.out, hgr, hwo, hneA, hneW, hneG⟩
          refine tkC (fun K hK => ?_) AllReadyH.nil
          go_simp
          go_at_call 42
          refine (kwd w2 (hpA'.below in_okW.len (Below.then hBr hBw))).mono ?_
          rintro e w3 ⟨vw, rfl, hwo, hb⟩
          obtain ⟨va, vc, hvw, -, -, -⟩ := hwo.slice wd_okC.len
          subst hvw
          have hBw0 : wr.heap.size ≤ w2.heap.size := hBw.size
          have hneW : (Value.slice va (wordsN pp.is).length vc).ownBlock ≠ some gN := fun q => by have h9 := (hwo.lt q).1; have h8 := hz.2; omega
          have hneG : (Value.slice va (wordsN pp.is).length vc).ownBlock ≠ some gA := fun q => by have h9 := (hwo.lt q).1; have h8 : gA < w2.heap.size := (hgr.lt rfl).2; omega
          replace hBw := Below.then hBw hb
          replace hS := hS.then hb
          replace hgr := hgr.below hb
          replace hz := stab_blk _ _ _ _ hz hb
          replace hwo : OwnR 2 1 wcl w3 wr.heap.size (Value.slice va (wordsN pp.is).length vc) (wordsN pp.is) := hwo.lower hBw0
          clear hb hBw0
          refine hK.out _ _ (hS) ?_
          clear hHeld hK
          intro hHeld
          (try simp only [Act.put, zsA, zsB, zsC])
          refine tkR (rs := [5]) ?_
          refine tkC (fun K hK => ?_) AllReadyH.nil
          go_simp
          have hb := alloc_below w3 (.cells #[.int .u8 (48 + (i : Int))] 5)
          refine hK.out _ _ (hS.then hb) ?_
          clear hHeld hK
          intro hHeld
          have hch : ChrAt (w3.alloc (.cells #[.int .u8 (48 + (i : Int))] 5)) w3.heap.size (48 + i) := chr_made2 w3 i (by omega)
          replace hBw := Below.then hBw hb
          replace hS := hS.then hb
          replace hgr := hgr.below hb
          replace hwo := hwo.below hb
          replace hz := stab_blk _ _ _ _ hz hb
          generalize w3.alloc (.cells #[.int .u8 (48 + (i : Int))] 5) = w4 at *
          generalize w3.heap.size = gC at *
          clear hb
          refine wpAnyH_strong (S' := fun W => PX wr nd d1 yp i pp W ∧ ChrAt W gC (48 + i)) (fun _ h => h.1) ?_
          replace hHeld : PX wr nd d1 yp i pp w4 ∧ ChrAt w4 gC (48 + i) := ⟨hS, hch⟩
          (try simp only [Act.put, zsA, zsB, zsC])
          refine tkB 6 (y := yields_conv (by rfl) _ rfl rfl (fun _ s => s.2.conv)) (h := ?_)
          refine tkA 7 ?_
          refine tkA 18 ?_
          refine tkR (rs := [20]) ?_
          refine tkC (fun K hK => ?_) AllReadyH.nil
          obtain ⟨x0, hx0⟩ : ∃ x0 : PN, x0 = ⟨segX (D ++ slpS ++ dgS i) d1.n.label 7 ⟨4, 4, 4, 0⟩ (wordsN pp.is), some ⟨gA, 0, none⟩, 1, va, vc⟩ := ⟨_, rfl⟩
          have hxl : x0.cs.length = 16 := pn_len x0
          have hxs : (Tryz.prog.info? 36).map (·.size) = some x0.cs.length := by rw [hxl]; exact hszN
          obtain ⟨V9, hV9, hth9, hgo, hb9⟩ := put_any hz (ds := x0.cs) (by rw [hxl]; rfl) (by rw [hxl]; decide)
          refine step_store_rowC rfl _ _ rfl gN rfl x0.cs (by rw [hx0]; rfl) hth9 hxs (pn_one x0) hV9 ?_
          (try simp only [Act.put, zsA, zsB, zsC])
          have hk9 : ∀ j, j ≠ gN → V9.heap[j]? = w4.heap[j]? := fun j hj => by rw [← hV9]; exact heap_setCells_other hj _ _ _
          replace hBw := hb9 _ _ hwN hBw
          replace hS := hS00.then hBw
          replace hch : ChrAt V9 gC (48 + i) := hch.kept (hk9 _ (fun q => chr_ne hch hz q)) (hb9 0 w4 (Nat.zero_le _) (Below.refl _ _)).size
          replace hgr : OwnR 119 2 gcl V9 wr.heap.size x0.av x0.n.acl := by rw [hx0]; exact hgr.keep fun j hj => hk9 j (fun q => hneA (by rw [hj, q]))
          replace hwo : OwnR 2 1 wcl V9 wr.heap.size x0.wv x0.n.words := by rw [hx0]; exact hwo.keep fun j hj => hk9 j (fun q => hneW (by rw [hj, q]))
          replace hneA : x0.av.ownBlock ≠ some gN := by rw [hx0]; exact hneA
          replace hneW : x0.wv.ownBlock ≠ some gN := by rw [hx0]; exact hneW
          replace hneG : ∀ g, x0.wv.ownBlock = some g → x0.av.ownBlock ≠ some g := by rw [hx0]; exact fun g h9 h8 => hneG (by have h7 : gA = g := Option.some.inj h8; rw [h7]; exact h9)
          replace hx0 : Aside (x0.n = segX (D ++ slpS ++ dgS i) d1.n.label 7 ⟨4, 4, 4, 0⟩ (wordsN pp.is)) := by rw [hx0]; exact rfl
          clear hk9 hth9 hb9 hV9 hxs hxl hz
          refine hK.out _ _ (⟨hS, hch⟩) ?_
          clear hHeld hK
          intro hHeld
          (try simp only [Act.put, zsA, zsB, zsC])
          refine wpAnyH_done (by kernel_rfl) ?_ _
          clear hHeld
          go_wp2_with fail
          go_meet
          exact ⟨gN, x0, rfl, hBw, hgo, hwN, hx0.out, hgr, hwo, hneA, hneW, hneG⟩
        refine tkC (fun K hK => ?_) AllReadyH.nil
        go_simp
        go_at_call 42
        refine (kwd w1 (hpA'.below in_okW.len (Below.then hBr hBw))).mono ?_
        rintro e w2 ⟨vw, rfl, hwo, hb⟩
        obtain ⟨va, vc, hvw, -, -, -⟩ := hwo.slice wd_okC.len
        subst hvw
        have hBw0 : wr.heap.size ≤ w1.heap.size := hBw.size
        have hneW : (Value.slice va (wordsN pp.is).length vc).ownBlock ≠ some gN := fun q => by have h9 := (hwo.lt q).1; have h8 := hz.2; omega
        replace hBw := Below.then hBw hb
        replace hS := hS.then hb
        replace hz := stab_blk _ _ _ _ hz hb
        replace hwo : OwnR 2 1 wcl w2 wr.heap.size (Value.slice va (wordsN pp.is).length vc) (wordsN pp.is) := hwo.lower hBw0
        clear hb hBw0
        refine hK.out _ _ (hS) ?_
        clear hHeld hK
        intro hHeld
        (try simp only [Act.put, zsA, zsB, zsC])
        refine tkR (rs := [5, 11]) ?_
        refine tkC (fun K hK => ?_) ?_
        · go_simp
          have hb := alloc_below w2 (.cells #[.int .u8 (48 + (i : Int))] 5)
          refine hK.out _ _ (hS.then hb) ?_
          clear hHeld hK
          intro hHeld
          have hch : ChrAt (w2.alloc (.cells #[.int .u8 (48 + (i : Int))] 5)) w2.heap.size (48 + i) := chr_made2 w2 i (by omega)
          replace hBw := Below.then hBw hb
          replace hS := hS.then hb
          replace hwo := hwo.below hb
          replace hz := stab_blk _ _ _ _ hz hb
          generalize w2.alloc (.cells #[.int .u8 (48 + (i : Int))] 5) = w3 at *
          generalize w2.heap.size = gC at *
          clear hb
          refine wpAnyH_strong (S' := fun W => PX wr nd d1 yp i pp W ∧ ChrAt W gC (48 + i)) (fun _ h => h.1) ?_
          replace hHeld : PX wr nd d1 yp i pp w3 ∧ ChrAt w3 gC (48 + i) := ⟨hS, hch⟩
          (try simp only [Act.put, zsA, zsB, zsC])
          refine tkB 6 (y := yields_conv (by rfl) _ rfl rfl (fun _ s => s.2.conv)) (h := ?_)
          refine tkA 7 ?_
          refine tkR (rs := [11]) ?_
          refine tkC (fun K hK => ?_) AllReadyH.nil
          have hb := alloc_below w3 (.cells (gcl ⟨starS, 7⟩).toArray 119)
          refine step_build1 gr_okT (by decide) rfl _ rfl (gcl ⟨starS, 7⟩) rfl rfl ?_
          (try simp only [Act.put, zsA, zsB, zsC])
          refine hK.out _ _ (⟨hS.then hb, hch.below hb⟩) ?_
          clear hHeld hK
          intro hHeld
          have hgr : OwnR 119 2 gcl (w3.alloc (.cells (gcl ⟨starS, 7⟩).toArray 119)) wr.heap.size (.slice (some ⟨w3.heap.size, 0, none⟩) 1 1) [⟨starS, 7⟩] := own_oneP gr_okT w3 hBw.size ⟨starS, 7⟩
          have hneA : (Value.slice (some ⟨w3.heap.size, 0, none⟩) 1 1).ownBlock ≠ some gN := fun q => by have h9 : w3.heap.size = gN := Option.some.inj q; have h8 := hz.2; omega
          have hneG : (Value.slice va (wordsN pp.is).length vc).ownBlock ≠ some w3.heap.size := fun q => by have := (hwo.lt q).2; omega
          replace hBw := Below.then hBw hb
          replace hS := hS.then hb
          replace hch := hch.below hb
          replace hwo := hwo.below hb
          replace hz := stab_blk _ _ _ _ hz hb
          generalize w3.alloc (.cells (gcl ⟨starS, 7⟩).toArray 119) = w4 at *
          generalize w3.heap.size = gA at *
          clear hb
          (try simp only [Act.put, zsA, zsB, zsC])
          refine tkA 18 ?_
          refine tkR (rs := [20]) ?_
          refine tkC (fun K hK => ?_) AllReadyH.nil
          obtain ⟨x0, hx0⟩ : ∃ x0 : PN, x0 = ⟨segX (D ++ slpS ++ dgS i) d1.n.label 7 ⟨4, 4, 4, 0⟩ (wordsN pp.is), some ⟨gA, 0, none⟩, 1, va, vc⟩ := ⟨_, rfl⟩
          have hxl : x0.cs.length = 16 := pn_len x0
          have hxs : (Tryz.prog.info? 36).map (·.size) = some x0.cs.length := by rw [hxl]; exact hszN
          obtain ⟨V9, hV9, hth9, hgo, hb9⟩ := put_any hz (ds := x0.cs) (by rw [hxl]; rfl) (by rw [hxl]; decide)
          refine step_store_rowC rfl _ _ rfl gN rfl x0.cs (by rw [hx0]; rfl) hth9 hxs (pn_one x0) hV9 ?_
          (try simp only [Act.put, zsA, zsB, zsC])
          have hk9 : ∀ j, j ≠ gN → V9.heap[j]? = w4.heap[j]? := fun j hj => by rw [← hV9]; exact heap_setCells_other hj _ _ _
          replace hBw := hb9 _ _ hwN hBw
          replace hS := hS00.then hBw
          replace hch : ChrAt V9 gC (48 + i) := hch.kept (hk9 _ (fun q => chr_ne hch hz q)) (hb9 0 w4 (Nat.zero_le _) (Below.refl _ _)).size
          replace hgr : OwnR 119 2 gcl V9 wr.heap.size x0.av x0.n.acl := by rw [hx0]; exact hgr.keep fun j hj => hk9 j (fun q => hneA (by rw [hj, q]))
          replace hwo : OwnR 2 1 wcl V9 wr.heap.size x0.wv x0.n.words := by rw [hx0]; exact hwo.keep fun j hj => hk9 j (fun q => hneW (by rw [hj, q]))
          replace hneA : x0.av.ownBlock ≠ some gN := by rw [hx0]; exact hneA
          replace hneW : x0.wv.ownBlock ≠ some gN := by rw [hx0]; exact hneW
          replace hneG : ∀ g, x0.wv.ownBlock = some g → x0.av.ownBlock ≠ some g := by rw [hx0]; exact fun g h9 h8 => hneG (by have h7 : gA = g := Option.some.inj h8; rw [h7]; exact h9)
          replace hx0 : Aside (x0.n = segX (D ++ slpS ++ dgS i) d1.n.label 7 ⟨4, 4, 4, 0⟩ (wordsN pp.is)) := by rw [hx0]; exact rfl
          clear hk9 hth9 hb9 hV9 hxs hxl hz
          refine hK.out _ _ (⟨hS, hch⟩) ?_
          clear hHeld hK
          intro hHeld
          (try simp only [Act.put, zsA, zsB, zsC])
          refine wpAnyH_done (by kernel_rfl) ?_ _
          clear hHeld
          go_wp2_with fail
          go_meet
          exact ⟨gN, x0, rfl, hBw, hgo, hwN, hx0.out, hgr, hwo, hneA, hneW, hneG⟩
        refine tkC (fun K hK => ?_) AllReadyH.nil
        have hb := alloc_below w2 (.cells (gcl ⟨starS, 7⟩).toArray 119)
        refine step_build1 gr_okT (by decide) rfl _ rfl (gcl ⟨starS, 7⟩) rfl rfl ?_
        (try simp only [Act.put, zsA, zsB, zsC])
        refine hK.out _ _ (hS.then hb) ?_
        clear hHeld hK
        intro hHeld
        have hgr : OwnR 119 2 gcl (w2.alloc (.cells (gcl ⟨starS, 7⟩).toArray 119)) wr.heap.size (.slice (some ⟨w2.heap.size, 0, none⟩) 1 1) [⟨starS, 7⟩] := own_oneP gr_okT w2 hBw.size ⟨starS, 7⟩
        have hneA : (Value.slice (some ⟨w2.heap.size, 0, none⟩) 1 1).ownBlock ≠ some gN := fun q => by have h9 : w2.heap.size = gN := Option.some.inj q; have h8 := hz.2; omega
        have hneG : (Value.slice va (wordsN pp.is).length vc).ownBlock ≠ some w2.heap.size := fun q => by have := (hwo.lt q).2; omega
        replace hBw := Below.then hBw hb
        replace hS := hS.then hb
        replace hwo := hwo.below hb
        replace hz := stab_blk _ _ _ _ hz hb
        generalize w2.alloc (.cells (gcl ⟨starS, 7⟩).toArray 119) = w3 at *
        generalize w2.heap.size = gA at *
        clear hb
        (try simp only [Act.put, zsA, zsB, zsC])
        refine tkR (rs := [5]) ?_
        refine tkC (fun K hK => ?_) AllReadyH.nil
        go_simp
        have hb := alloc_below w3 (.cells #[.int .u8 (48 + (i : Int))] 5)
        refine hK.out _ _ (hS.then hb) ?_
        clear hHeld hK
        intro hHeld
        have hch : ChrAt (w3.alloc (.cells #[.int .u8 (48 + (i : Int))] 5)) w3.heap.size (48 + i) := chr_made2 w3 i (by omega)
        replace hBw := Below.then hBw hb
        replace hS := hS.then hb
        replace hgr := hgr.below hb
        replace hwo := hwo.below hb
        replace hz := stab_blk _ _ _ _ hz hb
        generalize w3.alloc (.cells #[.int .u8 (48 + (i : Int))] 5) = w4 at *
        generalize w3.heap.size = gC at *
        clear hb
        refine wpAnyH_strong (S' := fun W => PX wr nd d1 yp i pp W ∧ ChrAt W gC (48 + i)) (fun _ h => h.1) ?_
        replace hHeld : PX wr nd d1 yp i pp w4 ∧ ChrAt w4 gC (48 + i) := ⟨hS, hch⟩
        (try simp only [Act.put, zsA, zsB, zsC])
        refine tkB 6 (y := yields_conv (by rfl) _ rfl rfl (fun _ s => s.2.conv)) (h := ?_)
        refine tkA 7 ?_
        refine tkA 18 ?_
        refine tkR (rs := [20]) ?_
        refine tkC (fun K hK => ?_) AllReadyH.nil
        obtain ⟨x0, hx0⟩ : ∃ x0 : PN, x0 = ⟨segX (D ++ slpS ++ dgS i) d1.n.label 7 ⟨4, 4, 4, 0⟩ (wordsN pp.is), some ⟨gA, 0, none⟩, 1, va, vc⟩ := ⟨_, rfl⟩
        have hxl : x0.cs.length = 16 := pn_len x0
        have hxs : (Tryz.prog.info? 36).map (·.size) = some x0.cs.length := by rw [hxl]; exact hszN
        obtain ⟨V9, hV9, hth9, hgo, hb9⟩ := put_any hz (ds := x0.cs) (by rw [hxl]; rfl) (by rw [hxl]; decide)
        refine step_store_rowC rfl _ _ rfl gN rfl x0.cs (by rw [hx0]; rfl) hth9 hxs (pn_one x0) hV9 ?_
        (try simp only [Act.put, zsA, zsB, zsC])
        have hk9 : ∀ j, j ≠ gN → V9.heap[j]? = w4.heap[j]? := fun j hj => by rw [← hV9]; exact heap_setCells_other hj _ _ _
        replace hBw := hb9 _ _ hwN hBw
        replace hS := hS00.then hBw
        replace hch : ChrAt V9 gC (48 + i) := hch.kept (hk9 _ (fun q => chr_ne hch hz q)) (hb9 0 w4 (Nat.zero_le _) (Below.refl _ _)).size
        replace hgr : OwnR 119 2 gcl V9 wr.heap.size x0.av x0.n.acl := by rw [hx0]; exact hgr.keep fun j hj => hk9 j (fun q => hneA (by rw [hj, q]))
        replace hwo : OwnR 2 1 wcl V9 wr.heap.size x0.wv x0.n.words := by rw [hx0]; exact hwo.keep fun j hj => hk9 j (fun q => hneW (by rw [hj, q]))
        replace hneA : x0.av.ownBlock ≠ some gN := by rw [hx0]; exact hneA
        replace hneW : x0.wv.ownBlock ≠ some gN := by rw [hx0]; exact hneW
        replace hneG : ∀ g, x0.wv.ownBlock = some g → x0.av.ownBlock ≠ some g := by rw [hx0]; exact fun g h9 h8 => hneG (by have h7 : gA = g := Option.some.inj h8; rw [h7]; exact h9)
        replace hx0 : Aside (x0.n = segX (D ++ slpS ++ dgS i) d1.n.label 7 ⟨4, 4, 4, 0⟩ (wordsN pp.is)) := by rw [hx0]; exact rfl
        clear hk9 hth9 hb9 hV9 hxs hxl hz
        refine hK.out _ _ (⟨hS, hch⟩) ?_
        clear hHeld hK
        intro hHeld
        (try simp only [Act.put, zsA, zsB, zsC])
        refine wpAnyH_done (by kernel_rfl) ?_ _
        clear hHeld
        go_wp2_with fail
        go_meet
        exact ⟨gN, x0, rfl, hBw, hgo, hwN, hx0.out, hgr, hwo, hneA, hneW, hneG⟩
      case rest =>
        clear hS hBw hbd hu8 kwd hsl hsg
        obtain ⟨gN, x0, rfl, hBw, hgo, hwN, hx0, hgr, hwo, hneA, hneW, hneG⟩ := hcut
        rw [← hD.out] at hx0
        have hx0n : Aside (x0.n = segX (pS j i) d1.n.label 7 ⟨4, 4, 4, 0⟩ (wordsN pp.is)) := hx0
        have hal : x0.n.acl = [⟨starS, 7⟩] := by rw [hx0]; rfl
        have hacl : x0.n.acl.length = 1 := by rw [hal]; rfl
        obtain ⟨gA, ca, hav, hgB, hgl⟩ := hgr.formR (by rw [hacl]; decide)
        have hav2 := hav
        unfold PN.av at hav2
        injection hav2 with e1 e2 e3
        have hgAN : gA ≠ gN := fun q => hneA (by rw [hav, q]; rfl)
        have h6 : x0.cs[6]? = some (.slice (some ⟨gA, 0, none⟩) 1 ca) := by
          show some (Value.slice x0.aa x0.n.acl.length x0.ca) = _
          rw [e1, e3, hacl]
        clear hx0 e2
        by_cases hmi : i < ms.length
        · obtain ⟨mo, hmo⟩ : ∃ mo, ms[i]? = some mo := ⟨_, List.getElem?_eq_getElem hmi⟩
          have i4 : (i : Int) < (nm : Int) := by rw [← hnm.out]; omega
          obtain ⟨ym, rfl, hyc⟩ := (hms.below icell_len hBr) i mo hmo
          have hyr : wr.cell? (ym.add i) = some (.int .i64 mo) := by
            have := hyc 0 (by decide)
            rw [Nat.mul_one, Nat.add_zero] at this
            exact this
          have hylt : (ym.add i).block < wr.heap.size := World.block_lt_of_cell? _ _ hyr
          have hym0 : wc.cell? (ym.add i) = some (.int .i64 mo) := (hBw.cell hylt).trans hyr
          have hgd : ms.getD i 0 = mo := by rw [List.getD_eq_getElem?_getD, hmo]; rfl
          clear hyc
          go_wp2_with fail
          refine (kw mo wc).mono ?_
          rintro e W8 ⟨rfl, rfl⟩
          by_cases hmp : 0 < mo % 8
          · have hmd : mdX ms i = mo % 8 := by
              unfold mdX
              rw [hgd, if_pos ⟨hmi, hmp⟩]
            obtain ⟨x2, hx2⟩ : ∃ x2 : PN, x2 = { x0 with n := { x0.n with acl := [⟨starS, mo % 8⟩] } } := ⟨_, rfl⟩
            have hx2c : x2.cs = x0.cs := by
              rw [hx2]
              unfold PN.cs nclT
              simp only [hacl]
              rfl
            have hx2n : Aside (x2.n = segX (pS j i) d1.n.label (mdX ms i) ⟨4, 4, 4, 0⟩ (wordsN pp.is)) := by
              show _ = _
              rw [hx2, hmd, hx0n.out]
              rfl
            have hdr : Below W8.heap.size W8 W8.drew := (Below.refl _ _).drew
            have hS : BlkL gN x0.cs W8.drew ∧ W8.drew.cell? (ym.add i) = some (.int .i64 mo) := ⟨stab_blk _ _ _ _ hgo hdr, hym0⟩
            have hgo0 := hS.1
            have hgr0 := hgr.below hdr
            rw [hav, hal] at hgr0
            have hwo0 := hwo.below hdr
            have hBw2 : Below wr.heap.size wr W8.drew := hBw.drew
            clear hdr
            go_upto_region 9 with fail
            refine wp_region_held_drew (S := (fun W => BlkL gN x0.cs W ∧ W.cell? (ym.add i) = some (.int .i64 mo))) (by kernel_rfl) (by exact hS) ?_
            intro hHeld
            generalize W8.drew = w0 at *
            refine tkA 0 ?_
            refine tkB 1 (y := yields_cellI (by rfl) _ rfl ⟨gN, 6, none⟩ rfl (.slice (some ⟨gA, 0, none⟩) 1 ca) (fun _ s => (s.1.1 6 _ h6).1) grsP_load) (h := ?_)
            refine tkA 2 ?_
            refine tkA 3 ?_
            refine tkA 4 ?_
            refine tkB 5 (y := yields_cellI (by rfl) _ rfl (ym.add i) rfl (.int .i64 mo) (fun _ s => s.2) intP_load) (h := ?_)
            refine tkR (rs := [6]) ?_
            refine tkC (fun K hK => ?_) AllReadyH.nil
            go_simp
            refine (kw mo w0).mono ?_
            rintro e w1 ⟨rfl, rfl⟩
            refine hK.out _ _ (hS) ?_
            clear hHeld hK
            intro hHeld
            (try simp only [Act.put, zsA, zsB, zsC])
            refine tkA 7 ?_
            refine tkA 8 ?_
            refine tkR (rs := [9]) ?_
            refine tkC (fun K hK => ?_) AllReadyH.nil
            obtain ⟨hga2, hf9, z9, hq9⟩ : OwnR 119 2 gcl (w1.setCell ⟨gA, 1, none⟩ (.int .i64 (mo % 8))) wr.heap.size (.slice (some ⟨gA, 0, none⟩) 1 ca) [⟨starS, mo % 8⟩] ∧ w1.frozen? ⟨gA, 1, none⟩ = false ∧ ∃ z, w1.cell? ⟨gA, 1, none⟩ = some z := OwnR.storedR (f := gcl) (j := 0) (o := 1) (x := ⟨starS, 7⟩) (y := ⟨starS, mo % 8⟩) (n := 1) (fun _ => rfl) hgr0 rfl rfl (by decide) rfl
            have hgo2 : BlkL gN x0.cs (w1.setCell ⟨gA, 1, none⟩ (.int .i64 (mo % 8))) := blk_setO hgo0 (Ne.symm hgAN) 1 _
            have hwo2 : OwnR 2 1 wcl (w1.setCell ⟨gA, 1, none⟩ (.int .i64 (mo % 8))) wr.heap.size x0.wv x0.n.words := hwo0.set (fun q => hneG gA q (by rw [hav]; rfl))
            have hBw_x2 := hBw2.setCell (p := ⟨gA, 1, none⟩) hgB (.int .i64 (mo % 8))
            have hym2 : (w1.setCell ⟨gA, 1, none⟩ (.int .i64 (mo % 8))).cell? (ym.add i) = some (.int .i64 mo) := by
              rw [hBw_x2.cell hylt, ← hBw2.cell hylt]
              exact hS.2
            refine step_st rfl _ _ rfl ⟨gA, 1, none⟩ rfl (.int .i64 (mo % 8)) rfl (intP_store _ _ _ _ hq9 hf9) ?_
            (try simp only [Act.put, zsA, zsB, zsC])
            refine hK.out _ _ (⟨hgo2, hym2⟩) ?_
            clear hHeld hK
            intro hHeld
            clear hf9 hq9 hym2
            generalize w1.setCell ⟨gA, 1, none⟩ (.int .i64 (mo % 8)) = V0 at *
            (try simp only [Act.put, zsA, zsB, zsC])
            refine wpAnyH_done (by kernel_rfl) ?_ _
            clear hHeld
            have hav3 : x2.av = .slice (some ⟨gA, 0, none⟩) 1 ca := by
              rw [hx2]
              show Value.slice x0.aa 1 x0.ca = _
              rw [e1, e3]
            have hgo_x2 : BlkL gN x2.cs V0 := by rw [hx2c]; exact hgo2
            have hgr_x2 : OwnR 119 2 gcl V0 wr.heap.size x2.av x2.n.acl := by
              rw [hav3, hx2]
              exact hga2
            have hwo_x2 : OwnR 2 1 wcl V0 wr.heap.size x2.wv x2.n.words := by
              rw [hx2]
              exact hwo2
            have hneA2 : x2.av.ownBlock ≠ some gN := by
              rw [hav3]
              exact fun q => hgAN (Option.some.inj q)
            have hneW2 : x2.wv.ownBlock ≠ some gN := by
              rw [hx2]
              exact hneW
            clear hx2 hgo2 hga2 hwo2 hneA hneW hneG hav e1 e3 hx2c hgo hgr hwo hgo0 hgr0 hwo0 hS hBw hBw2
            by_cases hri : i < rs.length
            · obtain ⟨rg, hrg⟩ : ∃ rg, rs[i]? = some rg := ⟨_, List.getElem?_eq_getElem hri⟩
              have i6 : (i : Int) < (nr : Int) := by rw [← hnr.out]; omega
              obtain ⟨yr, rfl, hyc⟩ := (hrsR.below rg_len (Below.then hBr hBw_x2)) i rg hrg
              have hrat : CellsAt V0 (yr.add (i * 4)) (rgcl rg) := (hrsR.below rg_len (Below.then hBr hBw_x2)).at rg_len hrg
              have hrgx : rgX rs i = goodR rg := by
                unfold rgX
                rw [if_pos hri, List.getD_eq_getElem?_getD, hrg]
                rfl
              have kg := rggood_any rg V0
              clear hyc
              go_upto_region 11 with fail
              go_wp2_with (first | (refine wpList_load_at rfl _ rfl (yr.add (i * 4)) rfl (rgcl rg) hrat hundR rfl hsr ?_) | fail)
              refine kg.mono ?_
              rintro e V1 ⟨rfl, hb1⟩
              obtain ⟨V2, hV2, hth2, hg2, hb2⟩ := put_mid (Z := wr) (stab_blk _ _ _ _ hgo_x2 hb1) 7 (rgcl (goodR rg)) (by rw [pn_len, rg_len]; decide) (by rw [pn_len]; decide) (Below.then hBw_x2 hb1) hwN
              obtain ⟨x3, hx3⟩ : ∃ x3 : PN, x3 = { x2 with n := { x2.n with r1 := (goodR rg).a, r2 := (goodR rg).b, r3 := (goodR rg).c, gates := (goodR rg).g } } := ⟨_, rfl⟩
              have hg3 : BlkL gN x3.cs V2 := by rw [hx3]; exact hg2
              have hx3n : Aside (x3.n = segX (pS j i) d1.n.label (mdX ms i) (rgX rs i) (wordsN pp.is)) := by
                show _ = _
                rw [hx3, hrgx, hx2n.out]
                rfl
              have hk2 : ∀ q, q ≠ gN → V2.heap[q]? = V1.heap[q]? := fun q hq => by rw [← hV2]; exact heap_setCells_other hq _ _ _
              have hga3 : OwnR 119 2 gcl V2 wr.heap.size x3.av x3.n.acl := by rw [hx3]; exact (hgr_x2.below hb1).keep fun q hq => hk2 q (fun z => hneA2 (by rw [← z]; exact hq))
              have hwo3 : OwnR 2 1 wcl V2 wr.heap.size x3.wv x3.n.words := by rw [hx3]; exact (hwo_x2.below hb1).keep fun q hq => hk2 q (fun z => hneW2 (by rw [← z]; exact hq))
              have hxa3 := own_at hga3 hwo3
              clear hx3
              have hBr3 : Below wr.heap.size wr V2 := hb2
              have hrow3 := hrow.below hBr3
              have hxs3 : (Tryz.prog.info? 36).map (·.size) = some x3.cs.length := by rw [pn_len]; exact hszN
              have hgr3 := hg3.range
              have hrgo := rg_one (goodR rg)
              have hsr2 : (Tryz.prog.info? 33).map (·.size) = some (rgcl (goodR rg)).length := hsr
              go_wp2_with (first | (refine wpList_store_part rfl _ _ rfl gN 7 rfl (rgcl (goodR rg)) rfl hth2 hsr2 hrgo hV2 ?_) | (refine wpList_load_row rfl _ rfl gN rfl x3.cs hgr3 hundN rfl hxs3 ?_) | fail)
              refine (kput V2 a1 c1 l1 x3 hll hrow3).mono ?_
              rintro e W9 ⟨v9, rfl, ho9, hb9⟩
              obtain ⟨a9, c9, hv9, -, -, -⟩ := ho9.slice pn_len
              subst hv9
              have hf9 : ∃ l9 : List PN, RowN W9 a9 l9 ∧ namesP l9 = putsX j d1.n.label (ps.map (·.is)) ms rs (i + 1) (namesP l) ∧ l9.length = (putP l1 x3).length ∧ l9.length ≤ l1.length + 1 := ⟨putP l1 x3, put_rowN ho9 hrow3 hxa3 hb9, by rw [put_names, hl1.out, putsX_next, hx3n.out]; unfold putX; rw [hpin.out], rfl, put_len l1 x3⟩
              obtain ⟨l9, hr9, hn9, hle9, hlen9⟩ := hf9
              rw [← hle9]
              have hBB9 := Below.then hBr3 hb9
              have hnd9 := stab_blk _ _ _ _ hnd hBB9
              clear ho9 hb9 hrow3 hxa3 hBr3 hle9
              go_wp2_with fail
              exact ⟨⟨i + 1, l9, a9, c9, by omega, by omega, by simp, rfl, hr9, hn9, by omega, hnd9, Below.then hBr hBB9⟩, by simp [Go.RowKit.intOf]; omega⟩
            · have i6 : ¬ (i : Int) < (nr : Int) := by rw [← hnr.out]; omega
              have hrgx : rgX rs i = ⟨4, 4, 4, 0⟩ := by
                unfold rgX
                rw [if_neg hri]
              obtain ⟨x3, hx3⟩ : ∃ x3, x3 = x2 := ⟨_, rfl⟩
              rw [← hx3] at hgo_x2 hgr_x2 hwo_x2 hx2n
              clear hx3
              have hx3n : Aside (x3.n = segX (pS j i) d1.n.label (mdX ms i) (rgX rs i) (wordsN pp.is)) := by
                show _ = _
                rw [hrgx, hx2n.out]
              have hxa3 := own_at hgr_x2 hwo_x2
              have hBr3 : Below wr.heap.size wr V0 := hBw_x2
              have hrow3 := hrow.below hBr3
              have hxs3 : (Tryz.prog.info? 36).map (·.size) = some x3.cs.length := by rw [pn_len]; exact hszN
              have hgr3 := hgo_x2.range
              go_wp2_with (first | (refine wpList_load_row rfl _ rfl gN rfl x3.cs hgr3 hundN rfl hxs3 ?_) | fail)
              refine (kput V0 a1 c1 l1 x3 hll hrow3).mono ?_
              rintro e W9 ⟨v9, rfl, ho9, hb9⟩
              obtain ⟨a9, c9, hv9, -, -, -⟩ := ho9.slice pn_len
              subst hv9
              have hf9 : ∃ l9 : List PN, RowN W9 a9 l9 ∧ namesP l9 = putsX j d1.n.label (ps.map (·.is)) ms rs (i + 1) (namesP l) ∧ l9.length = (putP l1 x3).length ∧ l9.length ≤ l1.length + 1 := ⟨putP l1 x3, put_rowN ho9 hrow3 hxa3 hb9, by rw [put_names, hl1.out, putsX_next, hx3n.out]; unfold putX; rw [hpin.out], rfl, put_len l1 x3⟩
              obtain ⟨l9, hr9, hn9, hle9, hlen9⟩ := hf9
              rw [← hle9]
              have hBB9 := Below.then hBr3 hb9
              have hnd9 := stab_blk _ _ _ _ hnd hBB9
              clear ho9 hb9 hrow3 hxa3 hBr3 hle9
              go_wp2_with fail
              exact ⟨⟨i + 1, l9, a9, c9, by omega, by omega, by simp, rfl, hr9, hn9, by omega, hnd9, Below.then hBr hBB9⟩, by simp [Go.RowKit.intOf]; omega⟩
          · have hmd : mdX ms i = 7 := by
              unfold mdX
              rw [hgd, if_neg (fun q => hmp q.2)]
            have hx2n : Aside (x0.n = segX (pS j i) d1.n.label (mdX ms i) ⟨4, 4, 4, 0⟩ (wordsN pp.is)) := by
              show _ = _
              rw [hmd, hx0n.out]
            have hneA2 := hneA
            have hneW2 := hneW
            clear hneA hneW hneG
            obtain ⟨x2, hx2⟩ : ∃ x2, x2 = x0 := ⟨_, rfl⟩
            rw [← hx2] at hgo hgr hwo hneA2 hneW2 hx2n
            clear hx2 hav e1 e3 h6 hym0 hyr
            have hgo_x2 := hgo
            have hgr_x2 := hgr
            have hwo_x2 := hwo
            have hBw_x2 := hBw
            clear hgo hgr hwo hBw
            by_cases hri : i < rs.length
            · obtain ⟨rg, hrg⟩ : ∃ rg, rs[i]? = some rg := ⟨_, List.getElem?_eq_getElem hri⟩
              have i6 : (i : Int) < (nr : Int) := by rw [← hnr.out]; omega
              obtain ⟨yr, rfl, hyc⟩ := (hrsR.below rg_len (Below.then hBr hBw_x2)) i rg hrg
              have hrat : CellsAt W8 (yr.add (i * 4)) (rgcl rg) := (hrsR.below rg_len (Below.then hBr hBw_x2)).at rg_len hrg
              have hrgx : rgX rs i = goodR rg := by
                unfold rgX
                rw [if_pos hri, List.getD_eq_getElem?_getD, hrg]
                rfl
              have kg := rggood_any rg W8
              clear hyc
              go_upto_region 11 with fail
              go_wp2_with (first | (refine wpList_load_at rfl _ rfl (yr.add (i * 4)) rfl (rgcl rg) hrat hundR rfl hsr ?_) | fail)
              refine kg.mono ?_
              rintro e V1 ⟨rfl, hb1⟩
              obtain ⟨V2, hV2, hth2, hg2, hb2⟩ := put_mid (Z := wr) (stab_blk _ _ _ _ hgo_x2 hb1) 7 (rgcl (goodR rg)) (by rw [pn_len, rg_len]; decide) (by rw [pn_len]; decide) (Below.then hBw_x2 hb1) hwN
              obtain ⟨x3, hx3⟩ : ∃ x3 : PN, x3 = { x2 with n := { x2.n with r1 := (goodR rg).a, r2 := (goodR rg).b, r3 := (goodR rg).c, gates := (goodR rg).g } } := ⟨_, rfl⟩
              have hg3 : BlkL gN x3.cs V2 := by rw [hx3]; exact hg2
              have hx3n : Aside (x3.n = segX (pS j i) d1.n.label (mdX ms i) (rgX rs i) (wordsN pp.is)) := by
                show _ = _
                rw [hx3, hrgx, hx2n.out]
                rfl
              have hk2 : ∀ q, q ≠ gN → V2.heap[q]? = V1.heap[q]? := fun q hq => by rw [← hV2]; exact heap_setCells_other hq _ _ _
              have hga3 : OwnR 119 2 gcl V2 wr.heap.size x3.av x3.n.acl := by rw [hx3]; exact (hgr_x2.below hb1).keep fun q hq => hk2 q (fun z => hneA2 (by rw [← z]; exact hq))
              have hwo3 : OwnR 2 1 wcl V2 wr.heap.size x3.wv x3.n.words := by rw [hx3]; exact (hwo_x2.below hb1).keep fun q hq => hk2 q (fun z => hneW2 (by rw [← z]; exact hq))
              have hxa3 := own_at hga3 hwo3
              clear hx3
              have hBr3 : Below wr.heap.size wr V2 := hb2
              have hrow3 := hrow.below hBr3
              have hxs3 : (Tryz.prog.info? 36).map (·.size) = some x3.cs.length := by rw [pn_len]; exact hszN
              have hgr3 := hg3.range
              have hrgo := rg_one (goodR rg)
              have hsr2 : (Tryz.prog.info? 33).map (·.size) = some (rgcl (goodR rg)).length := hsr
              go_wp2_with (first | (refine wpList_store_part rfl _ _ rfl gN 7 rfl (rgcl (goodR rg)) rfl hth2 hsr2 hrgo hV2 ?_) | (refine wpList_load_row rfl _ rfl gN rfl x3.cs hgr3 hundN rfl hxs3 ?_) | fail)
              refine (kput V2 a1 c1 l1 x3 hll hrow3).mono ?_
              rintro e W9 ⟨v9, rfl, ho9, hb9⟩
              obtain ⟨a9, c9, hv9, -, -, -⟩ := ho9.slice pn_len
              subst hv9
              have hf9 : ∃ l9 : List PN, RowN W9 a9 l9 ∧ namesP l9 = putsX j d1.n.label (ps.map (·.is)) ms rs (i + 1) (namesP l) ∧ l9.length = (putP l1 x3).length ∧ l9.length ≤ l1.length + 1 := ⟨putP l1 x3, put_rowN ho9 hrow3 hxa3 hb9, by rw [put_names, hl1.out, putsX_next, hx3n.out]; unfold putX; rw [hpin.out], rfl, put_len l1 x3⟩
              obtain ⟨l9, hr9, hn9, hle9, hlen9⟩ := hf9
              rw [← hle9]
              have hBB9 := Below.then hBr3 hb9
              have hnd9 := stab_blk _ _ _ _ hnd hBB9
              clear ho9 hb9 hrow3 hxa3 hBr3 hle9
              go_wp2_with fail
              exact ⟨⟨i + 1, l9, a9, c9, by omega, by omega, by simp, rfl, hr9, hn9, by omega, hnd9, Below.then hBr hBB9⟩, by simp [Go.RowKit.intOf]; omega⟩
            · have i6 : ¬ (i : Int) < (nr : Int) := by rw [← hnr.out]; omega
              have hrgx : rgX rs i = ⟨4, 4, 4, 0⟩ := by
                unfold rgX
                rw [if_neg hri]
              obtain ⟨x3, hx3⟩ : ∃ x3, x3 = x2 := ⟨_, rfl⟩
              rw [← hx3] at hgo_x2 hgr_x2 hwo_x2 hx2n
              clear hx3
              have hx3n : Aside (x3.n = segX (pS j i) d1.n.label (mdX ms i) (rgX rs i) (wordsN pp.is)) := by
                show _ = _
                rw [hrgx, hx2n.out]
              have hxa3 := own_at hgr_x2 hwo_x2
              have hBr3 : Below wr.heap.size wr W8 := hBw_x2
              have hrow3 := hrow.below hBr3
              have hxs3 : (Tryz.prog.info? 36).map (·.size) = some x3.cs.length := by rw [pn_len]; exact hszN
              have hgr3 := hgo_x2.range
              go_wp2_with (first | (refine wpList_load_row rfl _ rfl gN rfl x3.cs hgr3 hundN rfl hxs3 ?_) | fail)
              refine (kput W8 a1 c1 l1 x3 hll hrow3).mono ?_
              rintro e W9 ⟨v9, rfl, ho9, hb9⟩
              obtain ⟨a9, c9, hv9, -, -, -⟩ := ho9.slice pn_len
              subst hv9
              have hf9 : ∃ l9 : List PN, RowN W9 a9 l9 ∧ namesP l9 = putsX j d1.n.label (ps.map (·.is)) ms rs (i + 1) (namesP l) ∧ l9.length = (putP l1 x3).length ∧ l9.length ≤ l1.length + 1 := ⟨putP l1 x3, put_rowN ho9 hrow3 hxa3 hb9, by rw [put_names, hl1.out, putsX_next, hx3n.out]; unfold putX; rw [hpin.out], rfl, put_len l1 x3⟩
              obtain ⟨l9, hr9, hn9, hle9, hlen9⟩ := hf9
              rw [← hle9]
              have hBB9 := Below.then hBr3 hb9
              have hnd9 := stab_blk _ _ _ _ hnd hBB9
              clear ho9 hb9 hrow3 hxa3 hBr3 hle9
              go_wp2_with fail
              exact ⟨⟨i + 1, l9, a9, c9, by omega, by omega, by simp, rfl, hr9, hn9, by omega, hnd9, Below.then hBr hBB9⟩, by simp [Go.RowKit.intOf]; omega⟩
        · have i4 : ¬ (i : Int) < (nm : Int) := by rw [← hnm.out]; omega
          have hmd : mdX ms i = 7 := by
            unfold mdX
            rw [if_neg (fun q => hmi q.1)]
          have hx2n : Aside (x0.n = segX (pS j i) d1.n.label (mdX ms i) ⟨4, 4, 4, 0⟩ (wordsN pp.is)) := by
            show _ = _
            rw [hmd, hx0n.out]
          have hneA2 := hneA
          have hneW2 := hneW
          clear hneA hneW hneG
          obtain ⟨x2, hx2⟩ : ∃ x2, x2 = x0 := ⟨_, rfl⟩
          rw [← hx2] at hgo hgr hwo hneA2 hneW2 hx2n
          clear hx2 hav e1 e3 h6
          have hgo_x2 := hgo
          have hgr_x2 := hgr
          have hwo_x2 := hwo
          have hBw_x2 := hBw
          clear hgo hgr hwo hBw
          by_cases hri : i < rs.length
          · obtain ⟨rg, hrg⟩ : ∃ rg, rs[i]? = some rg := ⟨_, List.getElem?_eq_getElem hri⟩
            have i6 : (i : Int) < (nr : Int) := by rw [← hnr.out]; omega
            obtain ⟨yr, rfl, hyc⟩ := (hrsR.below rg_len (Below.then hBr hBw_x2)) i rg hrg
            have hrat : CellsAt wc (yr.add (i * 4)) (rgcl rg) := (hrsR.below rg_len (Below.then hBr hBw_x2)).at rg_len hrg
            have hrgx : rgX rs i = goodR rg := by
              unfold rgX
              rw [if_pos hri, List.getD_eq_getElem?_getD, hrg]
              rfl
            have kg := rggood_any rg wc
            clear hyc
            go_upto_region 11 with fail
            go_wp2_with (first | (refine wpList_load_at rfl _ rfl (yr.add (i * 4)) rfl (rgcl rg) hrat hundR rfl hsr ?_) | fail)
            refine kg.mono ?_
            rintro e V1 ⟨rfl, hb1⟩
            obtain ⟨V2, hV2, hth2, hg2, hb2⟩ := put_mid (Z := wr) (stab_blk _ _ _ _ hgo_x2 hb1) 7 (rgcl (goodR rg)) (by rw [pn_len, rg_len]; decide) (by rw [pn_len]; decide) (Below.then hBw_x2 hb1) hwN
            obtain ⟨x3, hx3⟩ : ∃ x3 : PN, x3 = { x2 with n := { x2.n with r1 := (goodR rg).a, r2 := (goodR rg).b, r3 := (goodR rg).c, gates := (goodR rg).g } } := ⟨_, rfl⟩
            have hg3 : BlkL gN x3.cs V2 := by rw [hx3]; exact hg2
            have hx3n : Aside (x3.n = segX (pS j i) d1.n.label (mdX ms i) (rgX rs i) (wordsN pp.is)) := by
              show _ = _
              rw [hx3, hrgx, hx2n.out]
              rfl
            have hk2 : ∀ q, q ≠ gN → V2.heap[q]? = V1.heap[q]? := fun q hq => by rw [← hV2]; exact heap_setCells_other hq _ _ _
            have hga3 : OwnR 119 2 gcl V2 wr.heap.size x3.av x3.n.acl := by rw [hx3]; exact (hgr_x2.below hb1).keep fun q hq => hk2 q (fun z => hneA2 (by rw [← z]; exact hq))
            have hwo3 : OwnR 2 1 wcl V2 wr.heap.size x3.wv x3.n.words := by rw [hx3]; exact (hwo_x2.below hb1).keep fun q hq => hk2 q (fun z => hneW2 (by rw [← z]; exact hq))
            have hxa3 := own_at hga3 hwo3
            clear hx3
            have hBr3 : Below wr.heap.size wr V2 := hb2
            have hrow3 := hrow.below hBr3
            have hxs3 : (Tryz.prog.info? 36).map (·.size) = some x3.cs.length := by rw [pn_len]; exact hszN
            have hgr3 := hg3.range
            have hrgo := rg_one (goodR rg)
            have hsr2 : (Tryz.prog.info? 33).map (·.size) = some (rgcl (goodR rg)).length := hsr
            go_wp2_with (first | (refine wpList_store_part rfl _ _ rfl gN 7 rfl (rgcl (goodR rg)) rfl hth2 hsr2 hrgo hV2 ?_) | (refine wpList_load_row rfl _ rfl gN rfl x3.cs hgr3 hundN rfl hxs3 ?_) | fail)
            refine (kput V2 a1 c1 l1 x3 hll hrow3).mono ?_
            rintro e W9 ⟨v9, rfl, ho9, hb9⟩
            obtain ⟨a9, c9, hv9, -, -, -⟩ := ho9.slice pn_len
            subst hv9
            have hf9 : ∃ l9 : List PN, RowN W9 a9 l9 ∧ namesP l9 = putsX j d1.n.label (ps.map (·.is)) ms rs (i + 1) (namesP l) ∧ l9.length = (putP l1 x3).length ∧ l9.length ≤ l1.length + 1 := ⟨putP l1 x3, put_rowN ho9 hrow3 hxa3 hb9, by rw [put_names, hl1.out, putsX_next, hx3n.out]; unfold putX; rw [hpin.out], rfl, put_len l1 x3⟩
            obtain ⟨l9, hr9, hn9, hle9, hlen9⟩ := hf9
            rw [← hle9]
            have hBB9 := Below.then hBr3 hb9
            have hnd9 := stab_blk _ _ _ _ hnd hBB9
            clear ho9 hb9 hrow3 hxa3 hBr3 hle9
            go_wp2_with fail
            exact ⟨⟨i + 1, l9, a9, c9, by omega, by omega, by simp, rfl, hr9, hn9, by omega, hnd9, Below.then hBr hBB9⟩, by simp [Go.RowKit.intOf]; omega⟩
          · have i6 : ¬ (i : Int) < (nr : Int) := by rw [← hnr.out]; omega
            have hrgx : rgX rs i = ⟨4, 4, 4, 0⟩ := by
              unfold rgX
              rw [if_neg hri]
            obtain ⟨x3, hx3⟩ : ∃ x3, x3 = x2 := ⟨_, rfl⟩
            rw [← hx3] at hgo_x2 hgr_x2 hwo_x2 hx2n
            clear hx3
            have hx3n : Aside (x3.n = segX (pS j i) d1.n.label (mdX ms i) (rgX rs i) (wordsN pp.is)) := by
              show _ = _
              rw [hrgx, hx2n.out]
            have hxa3 := own_at hgr_x2 hwo_x2
            have hBr3 : Below wr.heap.size wr wc := hBw_x2
            have hrow3 := hrow.below hBr3
            have hxs3 : (Tryz.prog.info? 36).map (·.size) = some x3.cs.length := by rw [pn_len]; exact hszN
            have hgr3 := hgo_x2.range
            go_wp2_with (first | (refine wpList_load_row rfl _ rfl gN rfl x3.cs hgr3 hundN rfl hxs3 ?_) | fail)
            refine (kput wc a1 c1 l1 x3 hll hrow3).mono ?_
            rintro e W9 ⟨v9, rfl, ho9, hb9⟩
            obtain ⟨a9, c9, hv9, -, -, -⟩ := ho9.slice pn_len
            subst hv9
            have hf9 : ∃ l9 : List PN, RowN W9 a9 l9 ∧ namesP l9 = putsX j d1.n.label (ps.map (·.is)) ms rs (i + 1) (namesP l) ∧ l9.length = (putP l1 x3).length ∧ l9.length ≤ l1.length + 1 := ⟨putP l1 x3, put_rowN ho9 hrow3 hxa3 hb9, by rw [put_names, hl1.out, putsX_next, hx3n.out]; unfold putX; rw [hpin.out], rfl, put_len l1 x3⟩
            obtain ⟨l9, hr9, hn9, hle9, hlen9⟩ := hf9
            rw [← hle9]
            have hBB9 := Below.then hBr3 hb9
            have hnd9 := stab_blk _ _ _ _ hnd hBB9
            clear ho9 hb9 hrow3 hxa3 hBr3 hle9
            go_wp2_with fail
            exact ⟨⟨i + 1, l9, a9, c9, by omega, by omega, by simp, rfl, hr9, hn9, by omega, hnd9, Below.then hBr hBB9⟩, by simp [Go.RowKit.intOf]; omega⟩
end Go.Proofs.YtidihdiffiffmaaGreatDoor
namespace Go.Proofs.YtidihdiffiffmaaGreatDoor
open Go.ChangeShapes Go.WideShapes Go.ChangeAt Go.RowKit
set_option maxRecDepth 8000
set_option linter.unusedVariables false
set_option linter.unusedSimpArgs false
theorem reads_rowsP {α : Type} {H : Type} {enc : TypeId × Value → H} {W : World} {t e : TypeId} {sz : Nat} {f : α → List Value} {q : α → Prop} (ht : Tryz.prog.underlying t = some (.slice e)) (hc : Tryz.prog.cellsOf e = sz) (hp : Reads enc W 0 (fun _ => true) true e fun cs => ∃ g, cs = f g ∧ q g) :
    Reads enc W 0 (fun _ => true) true t fun cs => ∃ (l : List α) (a : Option Addr) (cap : Nat), cs = [.slice a l.length cap] ∧ RowAt sz f W a l ∧ (∀ g ∈ l, q g) ∧ l.length ≤ cap ∧ cap ≤ 9223372036854775807 := fun n cs x h => by
  have h' := h
  rcases Go.Deep.open_slice ht h with ⟨hcs, _⟩ | ⟨ad, l, c', m, n', Dd, Pl, hcs, _⟩
  · subst hcs
    obtain ⟨L, hL, h1, h2, h3, h4, h5⟩ := open_rows (f := f) (q := q) ht hc hp h'
    exact ⟨L, _, _, by rw [hL], h1, h2, by omega, h5⟩
  · subst hcs
    obtain ⟨L, hL, h1, h2, h3, h4, h5⟩ := open_rows (f := f) (q := q) ht hc hp h'
    exact ⟨L, _, _, by rw [hL], h1, h2, by omega, h5⟩
section
variable {H : Type} {enc : TypeId × Value → H} {W : World}
theorem undInsP : Tryz.prog.underlying 80 = some (.struct (Tryz.prog.fieldsOf 80)) := by kernel_rfl
theorem cInsP : Tryz.prog.cellsOf 80 = 3 := by kernel_rfl
theorem reads_insP {base : Nat} {sp : Nat → Bool} {held : Bool} : Reads enc W base sp held 80 fun cs => ∃ i : Ins, cs = ins3 i ∧ True := fun n cs x h => by
  have hl := struct_len undInsP cInsP h
  obtain ⟨o, e0, w0⟩ := read_field (i := 0) (ty := 3) (off := 0) undInsP (by kernel_rfl) cInt (reads_int Tryz.underlying3) h
  obtain ⟨p, e1, w1⟩ := read_field (i := 1) (ty := 3) (off := 1) undInsP (by kernel_rfl) cInt (reads_int Tryz.underlying3) h
  obtain ⟨q, e2, w2⟩ := read_field (i := 2) (ty := 3) (off := 2) undInsP (by kernel_rfl) cInt (reads_int Tryz.underlying3) h
  match cs, hl with
  | [v0, v1, v2], _ =>
    simp at e0 e1 e2
    subst e0 e1 e2
    exact ⟨⟨o, p, q⟩, rfl, trivial⟩
theorem undPgP : Tryz.prog.underlying 92 = some (.struct (Tryz.prog.fieldsOf 92)) := by kernel_rfl
theorem cPgP : Tryz.prog.cellsOf 92 = 1 := by kernel_rfl
theorem cInssP : Tryz.prog.cellsOf 81 = 1 := by kernel_rfl
theorem reads_pgP : Reads enc W 0 (fun _ => true) true 92 fun cs => ∃ x : PPg, cs = pgcl x ∧ x.At W := fun n cs x h => by
  have hl := struct_len undPgP cPgP h
  obtain ⟨is, a, c, e0, hr, -, h1, h2⟩ := read_field (i := 0) (ty := 81) (off := 0) undPgP (by kernel_rfl) cInssP (reads_rowsP (f := ins3) Tryz.underlying81 cInsP reads_insP) h
  match cs, hl with
  | [v0], _ =>
    simp at e0
    subst e0
    exact ⟨⟨is, a, c⟩, rfl, hr, by show is.length ≤ 9223372036854775807; omega⟩
theorem open_pgs {n : Nat} {a : Option Addr} {len cap : Nat} {x : DataW H × List MemPlace} (h : DataW.trod enc Tryz.prog W 0 (fun _ => true) true n 24 [.slice a len cap] = some x) : ∃ l : List PPg, l.length = len ∧ RowAt 1 pgcl W a l ∧ (∀ g ∈ l, g.At W) ∧ len ≤ cap ∧ (len : Int) ≤ 9223372036854775807 := by
  obtain ⟨l, hl, hc, hf, _, h1, h2⟩ := open_rows (f := pgcl) (q := fun g : PPg => g.At W) Tryz.underlying24 cPgP reads_pgP h
  exact ⟨l, hl, hc, hf, h1, by omega⟩
theorem open_rgs {n : Nat} {a : Option Addr} {len cap : Nat} {x : DataW H × List MemPlace} (h : DataW.trod enc Tryz.prog W 0 (fun _ => true) true n 64 [.slice a len cap] = some x) : ∃ l : List Rg, l.length = len ∧ RowAt 4 rgcl W a l := by
  obtain ⟨l, hl, hc, _⟩ := open_rows (f := rgcl) (q := fun _ => True) Tryz.underlying64 cRi (fun n cs x h => by
    obtain ⟨p, q, r, s, e⟩ := reads_ri n cs x h
    exact ⟨⟨p, q, r, s⟩, e, trivial⟩) h
  exact ⟨l, hl, hc⟩
theorem reads_mkF : Reads enc W 0 (fun _ => true) true 129 fun cs => ∃ x : PM, cs = x.cs ∧ (x.At W ∧ ∀ w ∈ x.m.words, -9223372036854775808 ≤ w ∧ w ≤ 9223372036854775807) := fun fu cs x h => by
  have hl := struct_len undMk cMk h
  obtain ⟨ps, pa, pc, e0, hp, hpq, _, _⟩ := read_field (i := 0) (ty := 25) (off := 0) undMk (by kernel_rfl) cInts (reads_rows (f := icell) Tryz.underlying25 cInt reads_ic cInts) h
  obtain ⟨di, e1⟩ := read_field (i := 1) (ty := 4) (off := 1) undMk (by kernel_rfl) cBool (reads_bool Tryz.underlying4) h
  obtain ⟨la, e2, _⟩ := read_field (i := 2) (ty := 30) (off := 2) undMk (by kernel_rfl) cLab reads_lab h
  obtain ⟨gs, aa, ca, e3, hg, hgq, _, _⟩ := read_field (i := 3) (ty := 31) (off := 6) undMk (by kernel_rfl) cGrs (reads_rows (f := gcells) Tryz.underlying31 cGr reads_gr cGrs) h
  obtain ⟨r1, r2, r3, r4, e4⟩ := read_field (i := 4) (ty := 33) (off := 7) undMk (by kernel_rfl) cRi reads_ri h
  obtain ⟨ws, wa, cw, e5, hv, hvq, hno, hle⟩ := read_field (i := 5) (ty := 34) (off := 11) undMk (by kernel_rfl) cWds (reads_rows (f := wcell) Tryz.underlying34 cI64 reads_wd cWds) h
  obtain ⟨lb, e6, _⟩ := read_field (i := 6) (ty := 30) (off := 12) undMk (by kernel_rfl) cLab reads_lab h
  match cs, hl with
  | [v0, v1, v2, v3, v4, v5, v6, v7, v8, v9, v10, v11, v12, v13, v14, v15], _ =>
    simp [lcells] at e0 e1 e2 e3 e4 e5 e6
    obtain ⟨rfl, rfl, rfl, rfl⟩ := e2
    obtain ⟨rfl, rfl, rfl, rfl⟩ := e4
    obtain ⟨rfl, rfl, rfl, rfl⟩ := e6
    subst e0 e1 e3 e5
    exact ⟨⟨⟨ps, di, la, gs, ⟨r1, r2, r3, r4⟩, ws, lb⟩, pa, pc, aa, ca, wa, cw⟩, rfl, ⟨hp, RowAt.grs hg, RowAt.wrds hv, hpq⟩, hvq⟩
theorem open_mksF {n : Nat} {a : Option Addr} {len cap : Nat} {x : DataW H × List MemPlace} (h : DataW.trod enc Tryz.prog W 0 (fun _ => true) true n 23 [.slice a len cap] = some x) : ∃ l : List PM, l.length = len ∧ RowM W a l ∧ FitM (l.map (·.m)) := by
  obtain ⟨l, hl, hc, hf, _⟩ := open_rows (f := PM.cs) (q := fun x => x.At W ∧ ∀ w ∈ x.m.words, -9223372036854775808 ≤ w ∧ w ≤ 9223372036854775807) Tryz.underlying23 cMk reads_mkF h
  exact ⟨l, hl, ⟨hc, fun x hx => (hf x hx).1⟩, fun m hm => by
    obtain ⟨x, hx, rfl⟩ := List.mem_map.1 hm
    exact (hf x hx).2⟩
end
end Go.Proofs.YtidihdiffiffmaaGreatDoor
namespace Go.Proofs.YtidihdiffiffmaaGreatDoor
open Go.RowKit
set_option maxRecDepth 8000
set_option linter.unusedSimpArgs false
set_option linter.unusedVariables false
def gotP (l : List PN) (p : ByteArray) : PN := (findP l p).getD zeroP
theorem gotP_n (l : List PN) (p : ByteArray) : (gotP l p).n = gotN (namesP l) p := by
  unfold gotP gotN
  rw [find_names]
  cases findP l p <;> rfl
def segQ (l : List PN) (u : ByteArray) (t : Lab) (p : ByteArray) : PG :=
  if seeE (namesP l) t p ≠ 0 ∨ (gotN (namesP l) p).dir = true then zeroPG else ⟨segP (namesP l) u t p, (gotP l p).wa, (gotP l p).cw⟩
theorem segQ_g (l : List PN) (u : ByteArray) (t : Lab) (p : ByteArray) : (segQ l u t p).g = segP (namesP l) u t p := by
  unfold segQ
  by_cases h : seeE (namesP l) t p ≠ 0 ∨ (gotN (namesP l) p).dir = true
  · rw [if_pos h]; unfold segP; rw [if_pos h]; rfl
  · rw [if_neg h]
structure SGq (w W : World) (u : ByteArray) (t : Lab) : Prop where
  bl : Below w.heap.size w W
  bx : BlkL w.heap.size (sbL u t) W
  rs : BlkL (w.heap.size + 1) zeroPG.cs W
theorem SGq.then {w W W' : World} {u : ByteArray} {t : Lab} (h : SGq w W u t) (b : Below W.heap.size W W') : SGq w W' u t := ⟨Below.then h.bl b, stab_blk _ _ _ _ h.bx b, stab_blk _ _ _ _ h.rs b⟩
def modK (L : List Nod) (u : ByteArray) (t : Lab) (p : ByteArray) : Nat → Int
  | 0 => 0
  | 1 => mayI L u t p 1
  | 2 => mayI L u t p 1 + mayI L u t p 2
  | _ => modsP L u t p
def bitK : Nat → Int
  | 0 => 1
  | 1 => 2
  | 2 => 4
  | _ => 8
theorem modK_step (L : List Nod) (u : ByteArray) (t : Lab) (p : ByteArray) {i : Nat} (hi : i < 3) :
    (mayE L u t p (bitK i) = 0 → bits .or .i64 (modK L u t p i) (bitK i) = modK L u t p (i + 1)) ∧ (mayE L u t p (bitK i) ≠ 0 → modK L u t p i = modK L u t p (i + 1)) ∧ bitK i ≤ 4 ∧ IntKind.i64.wrap (2 * bitK i) = bitK (i + 1) := by
  have hw : ∀ x : Int, IntKind.i64.wrap x = x ∨ True := fun _ => .inr trivial
  match i, hi with
  | 0, _ =>
    refine ⟨fun h => ?_, fun h => ?_, by decide, by decide⟩
    · show bits .or .i64 0 1 = mayI L u t p 1
      unfold mayI
      rw [if_pos (show mayE L u t p 1 = 0 from h)]
      decide
    · show (0 : Int) = mayI L u t p 1
      unfold mayI
      rw [if_neg (show ¬ mayE L u t p 1 = 0 from h)]
  | 1, _ =>
    refine ⟨fun h => ?_, fun h => ?_, by decide, by decide⟩
    · show bits .or .i64 (mayI L u t p 1) 2 = mayI L u t p 1 + mayI L u t p 2
      unfold mayI
      rw [if_pos (show mayE L u t p 2 = 0 from h)]
      by_cases h1 : mayE L u t p 1 = 0
      · rw [if_pos h1]; decide
      · rw [if_neg h1]; decide
    · show mayI L u t p 1 = mayI L u t p 1 + mayI L u t p 2
      unfold mayI
      rw [if_neg (show ¬ mayE L u t p 2 = 0 from h)]
      omega
  | 2, _ =>
    refine ⟨fun h => ?_, fun h => ?_, by decide, by decide⟩
    · show bits .or .i64 (mayI L u t p 1 + mayI L u t p 2) 4 = modsP L u t p
      unfold modsP mayI
      rw [if_pos (show mayE L u t p 4 = 0 from h)]
      by_cases h1 : mayE L u t p 1 = 0 <;> by_cases h2 : mayE L u t p 2 = 0 <;> simp only [h1, h2, if_true, if_false] <;> decide
    · show mayI L u t p 1 + mayI L u t p 2 = modsP L u t p
      unfold modsP
      have : mayI L u t p 4 = 0 := by unfold mayI; rw [if_neg (show ¬ mayE L u t p 4 = 0 from h)]
      omega
end Go.Proofs.YtidihdiffiffmaaGreatDoor
namespace Go.Proofs.YtidihdiffiffmaaGreatDoor
open Go.RowKit
set_option maxRecDepth 8000
set_option linter.unusedSimpArgs false
set_option linter.unusedVariables false
theorem zeroP_at (W : World) : zeroP.At W := ⟨fun j g hg => by simp [zeroP] at hg, fun j g hg => by simp [zeroP] at hg⟩
theorem PartsN.at {l A M B : List PN} {u : ByteArray} (p : PartsN l u A M B) {x : PN} (hx : findP l u = some x) : l[A.length]? = some x ∧ (!M.isEmpty) = true := by
  rw [p.find] at hx
  cases M with
  | nil => cases hx
  | cons m r =>
    obtain rfl : m = x := by simpa using hx
    rw [p.eq, List.getElem?_append_right (Nat.le_refl _)]
    simp
theorem PartsN.not {l A M B : List PN} {u : ByteArray} (p : PartsN l u A M B) (hx : findP l u = none) : (!M.isEmpty) = false := by
  rw [p.find] at hx
  cases M with
  | nil => rfl
  | cons m r => cases hx
set_option maxRecDepth 8000 in
set_option maxHeartbeats 2000000 in
theorem tfindO_any (a : Option Addr) (cap : Nat) (l : List PN) (p : ByteArray) (hl : l.length ≤ 100000) (ho : OrdP l) (hf : ∀ x ∈ l, x.Few) (w : World) (h : RowN w a l) :
    Calls Tryz.prog 77 #[.slice a l.length cap, .string p] w fun e w' => ∃ y : PN, e = .returned (.tuple #[.agg y.cs.toArray, .bool (findP l p).isSome]) ∧ y.n = ((findP l p).getD zeroP).n ∧ y.At w' ∧ Below w.heap.size w w' ∧ y.Own w.heap.size w' := by
  have hund := Tryz.underlying36
  have hsz : (Tryz.prog.info? 36).map (·.size) = some 16 := by kernel_rfl
  obtain ⟨A, M, B, hP⟩ := partsN_of p l ho
  obtain ⟨fr, hfr⟩ : ∃ fr, findP l p = fr := ⟨_, rfl⟩
  rw [hfr]
  have hb0 := blkl_alloc w zeroP.cs.toArray 36
  have hB0 := alloc_below w (.cells zeroP.cs.toArray 36)
  have hz0 : zeroP.cs = [.string ⟨#[]⟩, .bool false, .int .i64 0, .int .i64 0, .int .i64 0, .int .i64 0, .slice none 0 0, .int .i64 0, .int .i64 0, .int .i64 0, .int .i64 0, .slice none 0 0, .int .i64 0, .int .i64 0, .int .i64 0, .int .i64 0] := rfl
  rw [hz0] at hb0 hB0
  have hrow := h.below hB0
  have kp := fun W (q : RowN W a l) => place_any W a cap l A M B p hP q hl
  obtain ⟨n, hn⟩ : ∃ n, l.length = n := ⟨_, rfl⟩
  rw [hn] at kp ⊢
  replace hn : Aside (l.length = n) := hn
  go_enter Tryz.func77, Tryz.ntmps77
  go_wp2_with fail
  generalize w.alloc (.cells #[.string ⟨#[]⟩, .bool false, .int .i64 0, .int .i64 0, .int .i64 0, .int .i64 0, .slice none 0 0, .int .i64 0, .int .i64 0, .int .i64 0, .int .i64 0, .slice none 0 0, .int .i64 0, .int .i64 0, .int .i64 0, .int .i64 0] 36) = W at *
  refine (kp W hrow).mono ?_
  rintro e W1 ⟨rfl, hB1⟩
  have hB01 := Below.then hB0 hB1
  have hb1 := stab_blk _ _ _ _ hb0 hB1
  have hrow1 := hrow.below hB1
  have hlt1 : w.heap.size < W1.heap.size := hb1.2
  clear kp hb0 hB0 hrow hB1
  cases fr with
  | none =>
    rw [hP.not hfr]
    have hk := hb1.1.setAll (cs := zeroP.cs) rfl
    have hBz : Below w.heap.size w (W1.setCells w.heap.size 0 zeroP.cs) := Below.cells (Nat.le_refl _) zeroP.cs 0 hB01
    have ht : W1.there w.heap.size 0 zeroP.cs.length := hb1.1.there
    obtain ⟨W2, hW2⟩ : ∃ W', W1.setCells w.heap.size 0 zeroP.cs = W' := ⟨_, rfl⟩
    rw [hW2] at hk hBz
    clear hb1 hP hfr
    go_wp2_with (first | (refine wpList_store_row rfl _ _ rfl w.heap.size rfl zeroP.cs rfl ht hsz (pn_one zeroP) hW2 ?_) | fail)
    refine bodyPost_ret (v := .tuple #[.agg zeroP.cs.toArray, .bool false]) (results_row2 rfl _ _ w.heap.size rfl (.bool false) rfl zeroP.cs hk.range hund rfl hsz) rfl ?_
    exact ⟨zeroP, rfl, rfl, zeroP_at _, hBz, .inl rfl, .inl rfl⟩
  | some x =>
    obtain ⟨hx, hm⟩ := hP.at hfr
    rw [hm]
    have hxm := List.mem_of_getElem? hx
    have hlt := (List.getElem?_eq_some_iff.1 hx).1
    rw [hn.out] at hlt
    obtain ⟨y0, rfl⟩ := h.some_ hx
    have hw := hrow1.r.at pn_len hx
    have ko := own_any x (hf x hxm) W1 (hrow1.p x hxm)
    obtain ⟨cs, hcs⟩ : ∃ cs, x.cs = cs := ⟨_, rfl⟩
    have hlen : cs.length = 16 := by rw [← hcs]; rfl
    rw [hcs] at hw ko
    have hsz1 : (Tryz.prog.info? 36).map (·.size) = some cs.length := by rw [hlen]; exact hsz
    obtain ⟨k, hk⟩ : ∃ k, A.length = k := ⟨_, rfl⟩
    rw [hk] at hw hlt ⊢
    clear hcs hk hx hfr hm hP h
    go_wp2_with (first | (refine wpList_load_at rfl _ rfl (y0.add (k * 16)) rfl cs hw hund rfl hsz1 ?_) | fail)
    refine ko.mono ?_
    rintro e W2 ⟨y, rfl, hyn, hya, hyo, hB2⟩
    have hb2 := stab_blk _ _ _ _ hb1 hB2
    have hB02 := Below.then hB01 hB2
    clear ko hw hb1
    have hk := hb2.1.setAll (cs := y.cs) rfl
    have hBz : Below w.heap.size w (W2.setCells w.heap.size 0 y.cs) := Below.cells (Nat.le_refl _) y.cs 0 hB02
    have ht : W2.there w.heap.size 0 y.cs.length := hb2.1.there
    have hyz := hya.cells hyo hlt1 0 y.cs
    have hyw : y.Own w.heap.size (W2.setCells w.heap.size 0 y.cs) := hyo.lower (by omega) (Below.cells (B := w.heap.size) (Nat.le_refl _) y.cs 0 (Below.refl _ W2)).size
    obtain ⟨W3, hW3⟩ : ∃ W', W2.setCells w.heap.size 0 y.cs = W' := ⟨_, rfl⟩
    rw [hW3] at hk hBz hyz hyw
    clear hb2 hya hB2
    go_wp2_with (first | (refine wpList_store_row rfl _ _ rfl w.heap.size rfl y.cs rfl ht hsz (pn_one y) hW3 ?_) | fail)
    refine bodyPost_ret (v := .tuple #[.agg y.cs.toArray, .bool true]) (results_row2 rfl _ _ w.heap.size rfl (.bool true) rfl y.cs hk.range hund rfl hsz) rfl ?_
    exact ⟨y, rfl, hyn, hyz, hBz, hyw⟩
theorem tfind_any (a : Option Addr) (cap : Nat) (l : List PN) (p : ByteArray) (hl : l.length ≤ 100000) (ho : OrdP l) (hf : ∀ x ∈ l, x.Few) (w : World) (h : RowN w a l) :
    Calls Tryz.prog 77 #[.slice a l.length cap, .string p] w fun e w' => ∃ y : PN, e = .returned (.tuple #[.agg y.cs.toArray, .bool (findP l p).isSome]) ∧ y.n = ((findP l p).getD zeroP).n ∧ y.At w' ∧ Below w.heap.size w w' := by
  refine (tfindO_any a cap l p hl ho hf w h).mono ?_
  rintro e w' ⟨y, h1, h2, h3, h4, _⟩
  exact ⟨y, h1, h2, h3, h4⟩
structure Pc where
  a : Option Addr
  c : Nat
  l : List PN
def Pc.cs (x : Pc) : List Value := [.slice x.a x.l.length x.c]
end Go.Proofs.YtidihdiffiffmaaGreatDoor
namespace Go.Proofs.YtidihdiffiffmaaGreatDoor
open Go.RowKit
set_option maxRecDepth 8000
set_option linter.unusedSimpArgs false
set_option linter.unusedVariables false
theorem FineL.few {l : List PN} (h : FineL l) : ∀ x ∈ l, x.Few := fun x hx => by
  obtain ⟨_, _, _, hA, hd, hs⟩ := nodC_zero.1 (h.ok x hx)
  refine ⟨(acl_sorted hA).2, ?_⟩
  cases hq : x.n.dir
  · have := (hs hq).2.2; omega
  · have := (hd hq).2; omega
theorem FineL.lab {l : List PN} (h : FineL l) {x : PN} (hx : x ∈ l) : GL x.n.label := (nodC_zero.1 (h.ok x hx)).2.1
theorem findP_in {l : List PN} {p : ByteArray} {d : PN} (h : findP l p = some d) : d ∈ l := List.mem_of_find?_eq_some h
theorem nd_labL {W : World} {g : Nat} {x : PN} (h : BlkL g [.string x.n.path, .bool x.n.dir, .int .i64 x.n.label.s, .int .i64 x.n.label.c, .int .i64 x.n.label.i, .int .i64 x.n.label.k, .slice x.aa x.n.acl.length x.ca, .int .i64 x.n.r1, .int .i64 x.n.r2, .int .i64 x.n.r3, .int .i64 x.n.gates, .slice x.wa x.n.words.length x.cw, .int .i64 x.n.by_.s, .int .i64 x.n.by_.c, .int .i64 x.n.by_.i, .int .i64 x.n.by_.k] W) : CellsAt W ⟨g, 2, none⟩ (labM x.n.label) := nd_lab (x := x) h
theorem bits_not : ∀ M m : Fin 8, (bits .andNot .i64 ((m.val : Nat) : Int) ((M.val : Nat) : Int) != 0) = (bits .and .i64 ((M.val : Nat) : Int) ((m.val : Nat) : Int) != ((m.val : Nat) : Int)) := by decide +kernel
theorem cells_size (W : World) (b o : Nat) (vs : List Value) : W.heap.size ≤ (W.setCells b o vs).heap.size := (Below.cells (B := b) (Nat.le_refl _) vs o (Below.refl _ W)).size
theorem check_first {ns : List ByteArray} (hn : Names ns) : (bytes (pathB ns)).getD 0 0 = 47 := by
  by_cases h : ns = []
  · rw [h, pathB_nil]; rfl
  · rw [pathB_bytes h]
    cases ns with
    | nil => exact absurd rfl h
    | cons x r => rfl
theorem lover_rov {a b : Lab} (ha : GL a) (hb : GL b) (w : World) :
    Calls Tryz.prog 78 #[a.v, b.v] w fun e w' => e = .returned (.bool (rov a b)) ∧ Below w.heap.size w w' := by
  have h := lover_any a b w
  obtain ⟨A, rfl, hA⟩ := ha.nl
  obtain ⟨B, rfl, hB⟩ := hb.nl
  rw [rov_ov hA hB]
  exact h
set_option maxRecDepth 20000 in
set_option maxHeartbeats 4000000 in
theorem menter_any (a : Option Addr) (cap : Nat) (l : List PN) (u : ByteArray) (t : Lab) (p : ByteArray) (hF : FineL l) (hGt : GL t) (w : World) (h : RowN w a l) :
    Calls Tryz.prog 75 #[.slice a l.length cap, .agg (sbL u t).toArray, .string p] w fun e w' => e = .returned (.int .i64 (stepE t (findN (namesP l) p))) ∧ Below w.heap.size w w' := by
  have hund := Tryz.underlying36
  have hundL := Tryz.underlying30
  have hszN : (Tryz.prog.info? 36).map (·.size) = some 16 := by kernel_rfl
  have hsl : (Tryz.prog.info? 30).map (·.size) = some 4 := by kernel_rfl
  obtain ⟨E, hE⟩ : ∃ E, stepE t (findN (namesP l) p) = E := ⟨_, rfl⟩
  rw [hE]
  rw [find_names] at hE
  have hbs := blkl_alloc w (sbL u t).toArray 52
  have hB0 := alloc_below w (.cells (sbL u t).toArray 52)
  replace hbs : BlkL w.heap.size (sbL u t) (w.alloc (.cells (sbL u t).toArray 52)) := hbs
  have kf := fun W (q : RowN W a l) => tfind_any a cap l p (by have := hF.len; omega) (ordP.1 hF.ord) hF.few W q
  obtain ⟨fr, hfr⟩ : ∃ fr, findP l p = fr := ⟨_, rfl⟩
  rw [hfr] at kf hE
  have hlab : ∀ d, fr = some d → GL d.n.label := fun d q => hF.lab (findP_in (hfr.trans q))
  obtain ⟨n, hn⟩ : ∃ n, l.length = n := ⟨_, rfl⟩
  rw [hn] at kf ⊢
  replace hn : Aside (l.length = n) := hn
  clear hfr
  go_enter Tryz.func75, Tryz.ntmps75
  go_wp2_with fail
  generalize w.alloc (.cells (sbL u t).toArray 52) = W0 at *
  cases fr with
  | none =>
    rw [Option.isSome_none] at kf
    obtain rfl : E = 2 := hE.symm
    refine (kf W0 (h.below hB0)).mono ?_
    rintro e W3 ⟨y, rfl, hy, hya, hB3⟩
    obtain ⟨W4, hW4, hth4, hbn, hB4⟩ := put_new W3 zN 36 y.cs (by rw [pn_len]; rfl) (by rw [pn_len]; omega)
    have hB := Below.then hB0 (Below.then hB3 hB4)
    clear kf hbs hya hy
    go_wp2_with (first | (refine wpList_store_row rfl _ _ rfl W3.heap.size rfl y.cs rfl hth4 (by rw [pn_len]; exact hszN) (pn_one y) hW4 ?_) | fail)
    go_ret
    exact ⟨rfl, hB⟩
  | some d =>
    rw [Option.isSome_some] at kf
    have hGd := hlab d rfl
    replace hE : Aside (stepE t (some d.n) = E) := hE
    refine (kf W0 (h.below hB0)).mono ?_
    rintro e W3 ⟨y, rfl, hy, hya, hB3⟩
    replace hy : y.n = d.n := hy
    rw [← hy] at hE hGd
    obtain ⟨W4, hW4, hth4, hbn, hB4⟩ := put_new W3 zN 36 y.cs (by rw [pn_len]; rfl) (by rw [pn_len]; omega)
    have hB := Below.then hB0 (Below.then hB3 hB4)
    replace hbs := stab_blk _ _ _ _ hbs (Below.then hB3 hB4)
    have hz1 := (hbn.1 1 _ rfl).1
    have hcb := sb_lab hbs
    have hcn := nd_lab hbn
    clear kf hya hlab hy hbs hbn
    cases hd : y.n.dir
    · obtain rfl : E = 3 := by rw [← hE.out]; unfold stepE; simp [hd]
      rw [hd] at hz1
      go_wp2_with (first | (refine wpList_store_row rfl _ _ rfl W3.heap.size rfl y.cs rfl hth4 (by rw [pn_len]; exact hszN) (pn_one y) hW4 ?_) | fail)
      go_ret
      exact ⟨rfl, hB⟩
    · rw [hd] at hz1
      have kv := lover_rov hGt hGd W4
      cases hr : rov t y.n.label
      · obtain rfl : E = 15 := by rw [← hE.out]; unfold stepE; simp [hd, hr]
        rw [hr] at kv
        go_wp2_with (first | (refine wpList_store_row rfl _ _ rfl W3.heap.size rfl y.cs rfl hth4 (by rw [pn_len]; exact hszN) (pn_one y) hW4 ?_) | (refine wpList_load_at rfl _ rfl ⟨w.heap.size, 1, none⟩ rfl (labM t) hcb hundL rfl hsl ?_) | (refine wpList_load_at rfl _ rfl ⟨W3.heap.size, 2, none⟩ rfl (labM y.n.label) hcn hundL rfl hsl ?_) | fail)
        refine kv.mono ?_
        rintro e W5 ⟨rfl, hB5⟩
        have hfin := Below.then hB hB5
        go_wp2_with fail
        go_ret
        exact ⟨rfl, hfin⟩
      · obtain rfl : E = 0 := by rw [← hE.out]; unfold stepE; simp [hd, hr]
        rw [hr] at kv
        go_wp2_with (first | (refine wpList_store_row rfl _ _ rfl W3.heap.size rfl y.cs rfl hth4 (by rw [pn_len]; exact hszN) (pn_one y) hW4 ?_) | (refine wpList_load_at rfl _ rfl ⟨w.heap.size, 1, none⟩ rfl (labM t) hcb hundL rfl hsl ?_) | (refine wpList_load_at rfl _ rfl ⟨W3.heap.size, 2, none⟩ rfl (labM y.n.label) hcn hundL rfl hsl ?_) | fail)
        refine kv.mono ?_
        rintro e W5 ⟨rfl, hB5⟩
        have hfin := Below.then hB hB5
        go_wp2_with fail
        go_ret
        exact ⟨rfl, hfin⟩
set_option maxRecDepth 20000 in
set_option maxHeartbeats 4000000 in
theorem muse_any (x : PN) (u : ByteArray) (t : Lab) (m : Int) (hm1 : 1 ≤ m) (hm7 : m ≤ 7) (hGt : GL t) (hGx : GL x.n.label) (hA : chkA x.n.acl = 0) (w : World) (h : x.At w) :
    Calls Tryz.prog 40 #[.agg x.cs.toArray, .agg (sbL u t).toArray, .int .i64 m] w fun e w' => e = .returned (.int .i64 (modE x.n u t m)) ∧ Below w.heap.size w w' := by
  have hund := Tryz.underlying36
  have hundL := Tryz.underlying30
  have hsl : (Tryz.prog.info? 30).map (·.size) = some 4 := by kernel_rfl
  obtain ⟨E, hE⟩ : ∃ E, modE x.n u t m = E := ⟨_, rfl⟩
  rw [hE]
  unfold modE at hE
  have hso := (acl_sorted hA).1
  have hac := (acl_sorted hA).2
  obtain ⟨MM, hMM⟩ : ∃ MM, modesL x.n.acl u = MM := ⟨_, rfl⟩
  have hnot : (bits .andNot .i64 m MM != 0) = (bits .and .i64 MM m != m) := by
    obtain ⟨b0, b7⟩ := modes_range hA u
    rw [hMM] at b0 b7
    obtain ⟨M8, rfl⟩ := fin8 b0 b7
    obtain ⟨m8, rfl⟩ := fin8 (show 0 ≤ m by omega) hm7
    exact bits_not M8 m8
  rw [hMM] at hE
  have hb1 := alloc_below w (.cells x.cs.toArray 36)
  have hb2 := alloc_below (w.alloc (.cells x.cs.toArray 36)) (.cells (sbL u t).toArray 52)
  have hbx := stab_blk _ _ _ _ (blkl_alloc w x.cs.toArray 36) hb2
  have hbs := blkl_alloc (w.alloc (.cells x.cs.toArray 36)) (sbL u t).toArray 52
  rw [World.size_alloc] at hbs
  replace hbs : BlkL (w.heap.size + 1) (sbL u t) _ := hbs
  have hB := Below.then hb1 hb2
  have hxa := h.below hB
  have hcs : x.cs = [.string x.n.path, .bool x.n.dir, .int .i64 x.n.label.s, .int .i64 x.n.label.c, .int .i64 x.n.label.i, .int .i64 x.n.label.k, .slice x.aa x.n.acl.length x.ca, .int .i64 x.n.r1, .int .i64 x.n.r2, .int .i64 x.n.r3, .int .i64 x.n.gates, .slice x.wa x.n.words.length x.cw, .int .i64 x.n.by_.s, .int .i64 x.n.by_.c, .int .i64 x.n.by_.i, .int .i64 x.n.by_.k] := rfl
  rw [hcs] at hbx hbs hB hxa ⊢
  clear hb1 hb2 h hcs hm1 hm7
  have hnq : ∀ X, (binOp .neq 30 (.agg (labM t).toArray) (.agg (labM x.n.label).toArray)).run Tryz.prog X = .ok (.bool (!labEq t x.n.label)) X := run_neq_lab t x.n.label
  obtain ⟨A5, hA5⟩ : ∃ A5, bits .and .i64 m 5 = A5 := ⟨_, rfl⟩
  obtain ⟨A2, hA2⟩ : ∃ A2, bits .and .i64 m 2 = A2 := ⟨_, rfl⟩
  rw [hA5, hA2] at hE
  go_enter Tryz.func40, Tryz.ntmps40
  go_upto_region 1 with fail
  generalize (w.alloc (.cells ([.string x.n.path, .bool x.n.dir, .int .i64 x.n.label.s, .int .i64 x.n.label.c, .int .i64 x.n.label.i, .int .i64 x.n.label.k, .slice x.aa x.n.acl.length x.ca, .int .i64 x.n.r1, .int .i64 x.n.r2, .int .i64 x.n.r3, .int .i64 x.n.gates, .slice x.wa x.n.words.length x.cw, .int .i64 x.n.by_.s, .int .i64 x.n.by_.c, .int .i64 x.n.by_.i, .int .i64 x.n.by_.k]).toArray 36)).alloc (.cells (sbL u t).toArray 52) = W0 at *
  have hcb := sb_lab hbs
  have hcn := nd_labL hbx
  have kv := lover_rov hGt hGx W0
  cases hq5 : (A5 != 0)
  · rw [hq5, if_neg (fun q => by cases q.1)] at hE
    clear kv
    go_upto_region 2 with (first | fail)
    clear hcb hcn
    have hcb := sb_lab hbs
    have hcn := nd_labL hbx
    cases hq2 : (A2 != 0)
    · rw [hq2, if_neg (fun q => by cases q.1)] at hE
      go_upto_region 3 with (first | fail)
      clear hcb hcn
      have hz6 := (hbx.1 6 _ rfl).1
      have hz0 := (hbs.1 0 _ rfl).1
      have km := modes_any W0 x.aa x.ca x.n.acl u hso hxa.g hac
      rw [hMM] at km
      go_wp2_with fail
      refine km.mono ?_
      rintro e W7 ⟨rfl, hB7⟩
      have hfin := Below.then hB hB7
      clear km
      obtain ⟨AN, hAN⟩ : ∃ AN, bits .andNot .i64 m MM = AN := ⟨_, rfl⟩
      rw [hAN] at hnot
      cases hq : (AN != 0)
      · rw [← hnot, hq, if_neg (by decide)] at hE
        clear hnot
        subst hE
        go_wp2_with fail
        go_ret
        exact ⟨rfl, hfin⟩
      · rw [← hnot, hq, if_pos rfl] at hE
        clear hnot
        subst hE
        go_wp2_with fail
        go_ret
        exact ⟨rfl, hfin⟩
    · cases hle : labEq t x.n.label
      · rw [hle] at hnq
        rw [hq2, hle, if_pos ⟨rfl, rfl⟩] at hE
        subst hE
        go_wp2_with (first | (refine wpList_load_atg (by rfl) _ rfl ⟨w.heap.size + 1, 1, none⟩ rfl (labM t) hcb hundL rfl hsl ?_) | (refine wpList_load_atg (by rfl) _ rfl ⟨w.heap.size, 2, none⟩ rfl (labM x.n.label) hcn hundL rfl hsl ?_) | fail)
        go_ret
        exact ⟨rfl, hB⟩
      · rw [hle] at hnq
        rw [hle, if_neg (fun q => by cases q.2)] at hE
        go_upto_region 3 with (first | (refine wpList_load_atg (by rfl) _ rfl ⟨w.heap.size + 1, 1, none⟩ rfl (labM t) hcb hundL rfl hsl ?_) | (refine wpList_load_atg (by rfl) _ rfl ⟨w.heap.size, 2, none⟩ rfl (labM x.n.label) hcn hundL rfl hsl ?_) | fail)
        clear hcb hcn
        have hz6 := (hbx.1 6 _ rfl).1
        have hz0 := (hbs.1 0 _ rfl).1
        have km := modes_any W0 x.aa x.ca x.n.acl u hso hxa.g hac
        rw [hMM] at km
        go_wp2_with fail
        refine km.mono ?_
        rintro e W7 ⟨rfl, hB7⟩
        have hfin := Below.then hB hB7
        clear km
        obtain ⟨AN, hAN⟩ : ∃ AN, bits .andNot .i64 m MM = AN := ⟨_, rfl⟩
        rw [hAN] at hnot
        cases hq : (AN != 0)
        · rw [← hnot, hq, if_neg (by decide)] at hE
          clear hnot
          subst hE
          go_wp2_with fail
          go_ret
          exact ⟨rfl, hfin⟩
        · rw [← hnot, hq, if_pos rfl] at hE
          clear hnot
          subst hE
          go_wp2_with fail
          go_ret
          exact ⟨rfl, hfin⟩
  · cases hr : rov t x.n.label
    · rw [hr] at kv
      rw [hq5, hr, if_pos ⟨rfl, rfl⟩] at hE
      subst hE
      go_wp2_with (first | (refine wpList_load_atg (by rfl) _ rfl ⟨w.heap.size + 1, 1, none⟩ rfl (labM t) hcb hundL rfl hsl ?_) | (refine wpList_load_atg (by rfl) _ rfl ⟨w.heap.size, 2, none⟩ rfl (labM x.n.label) hcn hundL rfl hsl ?_) | fail)
      refine kv.mono ?_
      rintro e W5 ⟨rfl, hB5⟩
      have hfin := Below.then hB hB5
      clear kv hcb hcn
      go_wp2_with fail
      go_ret
      exact ⟨rfl, hfin⟩
    · rw [hr] at kv
      rw [hr, if_neg (fun q => by cases q.2)] at hE
      go_wp2_with (first | (refine wpList_load_atg (by rfl) _ rfl ⟨w.heap.size + 1, 1, none⟩ rfl (labM t) hcb hundL rfl hsl ?_) | (refine wpList_load_atg (by rfl) _ rfl ⟨w.heap.size, 2, none⟩ rfl (labM x.n.label) hcn hundL rfl hsl ?_) | fail)
      refine kv.mono ?_
      rintro e W5 ⟨rfl, hB5⟩
      replace hB := Below.then hB hB5
      replace hbx := stab_blk _ _ _ _ hbx hB5
      replace hbs := stab_blk _ _ _ _ hbs hB5
      replace hxa := hxa.below hB5
      clear kv hcb hcn
      go_upto_region 2 with fail
      have hcb := sb_lab hbs
      have hcn := nd_labL hbx
      cases hq2 : (A2 != 0)
      · rw [hq2, if_neg (fun q => by cases q.1)] at hE
        go_upto_region 3 with (first | fail)
        clear hcb hcn
        have hz6 := (hbx.1 6 _ rfl).1
        have hz0 := (hbs.1 0 _ rfl).1
        have km := modes_any W5 x.aa x.ca x.n.acl u hso hxa.g hac
        rw [hMM] at km
        go_wp2_with fail
        refine km.mono ?_
        rintro e W7 ⟨rfl, hB7⟩
        have hfin := Below.then hB hB7
        clear km
        obtain ⟨AN, hAN⟩ : ∃ AN, bits .andNot .i64 m MM = AN := ⟨_, rfl⟩
        rw [hAN] at hnot
        cases hq : (AN != 0)
        · rw [← hnot, hq, if_neg (by decide)] at hE
          clear hnot
          subst hE
          go_wp2_with fail
          go_ret
          exact ⟨rfl, hfin⟩
        · rw [← hnot, hq, if_pos rfl] at hE
          clear hnot
          subst hE
          go_wp2_with fail
          go_ret
          exact ⟨rfl, hfin⟩
      · cases hle : labEq t x.n.label
        · rw [hle] at hnq
          rw [hq2, hle, if_pos ⟨rfl, rfl⟩] at hE
          subst hE
          go_wp2_with (first | (refine wpList_load_atg (by rfl) _ rfl ⟨w.heap.size + 1, 1, none⟩ rfl (labM t) hcb hundL rfl hsl ?_) | (refine wpList_load_atg (by rfl) _ rfl ⟨w.heap.size, 2, none⟩ rfl (labM x.n.label) hcn hundL rfl hsl ?_) | fail)
          go_ret
          exact ⟨rfl, hB⟩
        · rw [hle] at hnq
          rw [hle, if_neg (fun q => by cases q.2)] at hE
          go_upto_region 3 with (first | (refine wpList_load_atg (by rfl) _ rfl ⟨w.heap.size + 1, 1, none⟩ rfl (labM t) hcb hundL rfl hsl ?_) | (refine wpList_load_atg (by rfl) _ rfl ⟨w.heap.size, 2, none⟩ rfl (labM x.n.label) hcn hundL rfl hsl ?_) | fail)
          clear hcb hcn
          have hz6 := (hbx.1 6 _ rfl).1
          have hz0 := (hbs.1 0 _ rfl).1
          have km := modes_any W5 x.aa x.ca x.n.acl u hso hxa.g hac
          rw [hMM] at km
          go_wp2_with fail
          refine km.mono ?_
          rintro e W7 ⟨rfl, hB7⟩
          have hfin := Below.then hB hB7
          clear km
          obtain ⟨AN, hAN⟩ : ∃ AN, bits .andNot .i64 m MM = AN := ⟨_, rfl⟩
          rw [hAN] at hnot
          cases hq : (AN != 0)
          · rw [← hnot, hq, if_neg (by decide)] at hE
            clear hnot
            subst hE
            go_wp2_with fail
            go_ret
            exact ⟨rfl, hfin⟩
          · rw [← hnot, hq, if_pos rfl] at hE
            clear hnot
            subst hE
            go_wp2_with fail
            go_ret
            exact ⟨rfl, hfin⟩
theorem told_zero {L : List Nod} {p : ByteArray} {e : Int} (h : e ≠ 0) : zeroP.n = toldN L p e := by
  unfold toldN
  rw [if_neg h]
  rfl
theorem ms_startM (w : World) (u : ByteArray) (t : Lab) : MS w ((w.alloc (.cells (sbL u t).toArray 52)).alloc (.cells zN 36)) u t := by
  have hb := alloc_below w (.cells (sbL u t).toArray 52)
  have hb2 := alloc_below (w.alloc (.cells (sbL u t).toArray 52)) (.cells zN 36)
  have h2 := blkl_alloc (w.alloc (.cells (sbL u t).toArray 52)) zN 36
  rw [World.size_alloc] at h2
  exact ⟨Below.then hb hb2, stab_blk _ _ _ _ (blkl_alloc w (sbL u t).toArray 52) hb2, h2⟩
set_option maxRecDepth 20000 in
set_option maxHeartbeats 8000000 in
theorem msee_any (a : Option Addr) (cap : Nat) (l : List PN) (u : ByteArray) (t : Lab) (p : ByteArray) (hF : FineL l) (hGt : GL t) (hp : p.size ≤ 1000) (w : World) (h : RowN w a l) (hV : MaxV w) :
    Calls Tryz.prog 39 #[.slice a l.length cap, .agg (sbL u t).toArray, .string p] w fun e w' => ∃ f : PN, e = .returned (.tuple #[.agg f.cs.toArray, .int .i64 (seeE (namesP l) t p)]) ∧ f.n = toldN (namesP l) p (seeE (namesP l) t p) ∧ f.At w' ∧ Below w.heap.size w w' ∧ f.Own w.heap.size w' := by
  have hund := Tryz.underlying36
  have hundM := Tryz.underlying52
  have hsz : (Tryz.prog.info? 36).map (·.size) = some zeroP.cs.length := by kernel_rfl
  have hszN : (Tryz.prog.info? 36).map (·.size) = some 16 := by kernel_rfl
  have hsm : (Tryz.prog.info? 52).map (·.size) = some 5 := by kernel_rfl
  have kf := fun q W (r : RowN W a l) => tfindO_any a cap l q (by have := hF.len; omega) (ordP.1 hF.ord) hF.few W r
  have ke := fun q W (r : RowN W a l) => menter_any a cap l u t q hF hGt W r
  have kc := fun W (q : MaxV W) => pcheck_any p (by omega) W q
  obtain ⟨E, hE⟩ : ∃ E, seeE (namesP l) t p = E := ⟨_, rfl⟩
  rw [hE]
  unfold seeE at hE
  obtain ⟨n, hn⟩ : ∃ n, l.length = n := ⟨_, rfl⟩
  rw [hn] at kf ke ⊢
  replace hn : Aside (l.length = n) := hn
  have h0 := ms_startM w u t
  generalize hce : checkOf p = ce at *
  have hbad := True.intro
  go_enter Tryz.func39, Tryz.ntmps39
  go_wp2_with fail
  generalize (w.alloc (.cells (sbL u t).toArray 52)).alloc (.cells zN 36) = W0 at *
  refine (kc W0 (hV.below h0.bl)).mono ?_
  rintro e W1 ⟨rfl, hB1⟩
  have h1 := h0.then hB1
  clear kc h0 hB1
  by_cases hc0 : ce = 0
  rotate_left
  · rw [if_pos hc0] at hE
    subst hE
    clear kf ke
    obtain ⟨W9, hW9, hth9, hk9, hb9⟩ := put_res h1.rs zeroP h1.bl (by omega)
    have hzz : zeroP.n = toldN (namesP l) p ce := told_zero hc0
    have hza := zero_atM W9
    clear hbad
    as_aux_lemma =>
      go_wp2_with (first | (refine wpList_store_part rfl _ _ rfl (w.heap.size + 1) 0 rfl zeroP.cs rfl hth9 hsz (pn_one zeroP) hW9 ?_) | fail)
      refine bodyPost_ret (v := .tuple #[.agg zeroP.cs.toArray, .int .i64 ce]) (results_row2 rfl _ _ (w.heap.size + 1) rfl (.int .i64 ce) rfl zeroP.cs hk9.range hund rfl hsz) rfl ?_
      exact ⟨zeroP, rfl, hzz, hza, hb9, .inl rfl, .inl rfl⟩
  subst hc0
  rw [if_neg (by simp)] at hE
  obtain ⟨ns, hns, rfl, h78⟩ := check_path hce
  have hpp : partsOf (pathB ns) = ns := parts_path hns.flat
  have hpq : ppartsOf (pathB ns) = ns := by rw [pparts_eq (check_first hns), hpp]
  rw [hpp] at hE
  have kp := parts_any (pathB ns) (by omega) W1 (hV.below h1.bl)
  rw [hpq] at kp
  obtain ⟨ln, hln⟩ : ∃ ln, ns.length = ln := ⟨_, rfl⟩
  go_wp2_with fail
  refine kp.mono ?_
  rintro e W2 ⟨pv, rfl, ho2, hB2⟩
  have h2 := h1.then hB2
  obtain ⟨pa, pcap, rfl⟩ := ho2.slice hln
  obtain ⟨B2, hB2e⟩ : ∃ B2, W1.heap.size = B2 := ⟨_, rfl⟩
  rw [hB2e] at ho2
  clear kp h1 hB2 hB2e hpp hpq
  replace hce : Aside _ := hce
  have hln6 : ln ≤ 6 := by rw [← hln]; exact hns.1
  replace hE : Aside _ := hE
  replace hln : Aside (ns.length = ln) := hln
  go_wp2_with fail
  go_loopw [9, 24] (fun t9 t24 wr => ∃ i : Nat, i ≤ ln ∧ t24 = .int .i64 (i : Int) ∧ t9 = .string (pathB (ns.take i)) ∧ Aside (wayE (namesP l) t [] ns = wayE (namesP l) t (ns.take i) (ns.drop i)) ∧ MS w wr u t ∧ OwnS wr B2 (.slice pa ln pcap) ns) (fun _ t24 _ => ln - (Go.RowKit.intOf t24).toNat)
  case atStart => exact ⟨0, by omega, rfl, by rw [List.take_zero, pathB_nil]; rfl, rfl, h2, ho2⟩
  case round =>
    clear h2 ho2
    obtain ⟨i, hi, rfl, rfl, hway, hM, ho⟩ := hrel
    by_cases hlt : i < ln
    · obtain ⟨nm, hnm⟩ : ∃ nm, ns[i]? = some nm := ⟨_, List.getElem?_eq_getElem (by rw [hln.out]; exact hlt)⟩
      have hnn := hns.flat nm (List.mem_of_getElem? hnm)
      have hnsz := (name_size (hns.2 nm (List.mem_of_getElem? hnm))).2
      have hw2 := hway.out
      rw [way_succ hnm] at hw2
      have hjoin : joinOf (pathB (ns.take i)) nm = pathB (ns.take (i + 1)) := by
        rw [join_path nm (fun q hq => (hns.flat q (List.mem_of_mem_take hq)).2), List.take_add_one, hnm]
        rfl
      have hats : (pathB (ns.take i)).size ≤ 1000000 := by
        have : Names (ns.take i) := ⟨by rw [List.length_take]; have := hns.1; omega, fun q hq => hns.2 q (List.mem_of_mem_take hq)⟩
        have := names_size this
        omega
      have kj := join_any (pathB (ns.take i)) nm hats (by omega)
      rw [hjoin] at kj
      have kb := ke (pathB (ns.take i)) wr (h.below hM.bl)
      obtain ⟨se, hse⟩ : ∃ se, stepE t (findN (namesP l) (pathB (ns.take i))) = se := ⟨_, rfl⟩
      rw [hse] at kb hw2
      obtain ⟨at_, hat⟩ : ∃ at_, pathB (ns.take i) = at_ := ⟨_, rfl⟩
      rw [hat] at kb kj ⊢
      have i1 : (i : Int) < (ln : Int) := by omega
      obtain ⟨g5, c5, hv5, hc5, _, _⟩ := ho.at hln.out hnm
      injection hv5 with q1 q2 q3
      subst q1 q3
      have hrs := hM.bx.range
      clear hway hat hjoin hats hse
      replace hw2 : Aside _ := hw2
      go_wp2_with (first | (refine wpList_load_row rfl _ rfl w.heap.size rfl (sbL u t) hrs hundM rfl hsm ?_) | fail)
      refine kb.mono ?_
      rintro e W3 ⟨rfl, hB3⟩
      have hM3 := hM.then hB3
      have ho3 := ho.below hB3
      clear kb hM hB3 ho hrs hc5
      by_cases hs0 : se = 0
      rotate_left
      · obtain rfl : E = se := by
          have q := hw2.out
          rw [if_pos hs0] at q
          rw [← hE.out, q, if_pos hs0]
        clear kf ke kj hE hw2
        obtain ⟨W9, hW9, hth9, hk9, hb9⟩ := put_res hM3.rs zeroP hM3.bl (by omega)
        have hzz : zeroP.n = toldN (namesP l) (pathB ns) E := told_zero hs0
        have hza := zero_atM W9
        clear hbad
        as_aux_lemma =>
          go_wp2_with (first | (refine wpList_store_part rfl _ _ rfl (w.heap.size + 1) 0 rfl zeroP.cs rfl hth9 hsz (pn_one zeroP) hW9 ?_) | fail)
          refine bodyPost_ret (v := .tuple #[.agg zeroP.cs.toArray, .int .i64 E]) (results_row2 rfl _ _ (w.heap.size + 1) rfl (.int .i64 E) rfl zeroP.cs hk9.range hund rfl hsz) rfl ?_
          exact ⟨zeroP, rfl, hzz, hza, hb9, .inl rfl, .inl rfl⟩
      · subst hs0
        have hw3 : Aside (wayE (namesP l) t [] ns = wayE (namesP l) t (ns.take (i + 1)) (ns.drop (i + 1))) := by
          have q := hw2.out
          rw [if_neg (by simp)] at q
          exact q
        clear hw2
        go_wp2_with fail
        refine (kj W3).mono ?_
        rintro e w6 ⟨rfl, hw6⟩
        replace hw6 := hw6.symm
        subst hw6
        go_wp2_with fail
        exact ⟨⟨i + 1, by omega, by simp, rfl, hw3, hM3, ho3⟩, by simp [Go.RowKit.intOf]; omega⟩
    · obtain rfl : i = ln := by omega
      have htk : ns.take i = ns := List.take_of_length_le (by rw [hln.out]; exact Nat.le_refl _)
      rw [htk]
      have hw0 : wayE (namesP l) t [] ns = 0 := by
        have q := hway.out
        rw [List.drop_eq_nil_of_le (by rw [hln.out]; exact Nat.le_refl _)] at q
        rw [q]
        rfl
      have hE2 := hE.out
      rw [hw0, if_neg (by simp), find_names] at hE2
      have kb := kf (pathB ns) wr (h.below hM.bl)
      obtain ⟨fr, hfr⟩ : ∃ fr, findP l (pathB ns) = fr := ⟨_, rfl⟩
      rw [hfr] at kb hE2
      have hTT : Aside (∀ d, fr = some d → toldN (namesP l) (pathB ns) 0 = d.n) := fun d q => by
        unfold toldN
        rw [if_pos rfl, find_names, hfr, q]
        rfl
      obtain ⟨pp, hppe⟩ : ∃ pp, pathB ns = pp := ⟨_, rfl⟩
      rw [hppe] at kb ⊢
      have i1 : ¬ (i : Int) < (i : Int) := by omega
      clear hway hw0 hfr ke kf htk hE hce hns hln
      replace hppe : Aside (pathB ns = pp) := hppe
      go_wp2_with fail
      refine kb.mono ?_
      rintro e W3 ⟨y, rfl, hy, hya, hB3, hyo⟩
      have hM3 := hM.then hB3
      have hlt2 : w.heap.size + 1 < wr.heap.size := hM.rs.2
      obtain ⟨W4, hW4, hth4, hbn, hB4⟩ := put_new W3 zN 36 y.cs (by rw [pn_len]; rfl) (by rw [pn_len]; omega)
      have hM4 := hM3.then hB4
      have hszy : (Tryz.prog.info? 36).map (·.size) = some y.cs.length := by rw [pn_len]; exact hszN
      replace hya := hya.below hB4
      clear kb hM hM3 hB3 ho
      cases fr with
      | none =>
        obtain rfl : E = 2 := hE2.symm
        clear hE2 hTT hy hya
        obtain ⟨W9, hW9, hth9, hk9, hb9⟩ := put_res hM4.rs zeroP hM4.bl (by omega)
        have hzz : zeroP.n = toldN (namesP l) (pathB ns) 2 := told_zero (by decide)
        have hza := zero_atM W9
        clear hbad
        as_aux_lemma =>
          go_wp2_with (first | (refine wpList_store_row rfl _ _ rfl W3.heap.size rfl y.cs rfl hth4 hszy (pn_one y) hW4 ?_) | (refine wpList_store_part rfl _ _ rfl (w.heap.size + 1) 0 rfl zeroP.cs rfl hth9 hsz (pn_one zeroP) hW9 ?_) | fail)
          refine bodyPost_ret (v := .tuple #[.agg zeroP.cs.toArray, .int .i64 2]) (results_row2 rfl _ _ (w.heap.size + 1) rfl (.int .i64 2) rfl zeroP.cs hk9.range hund rfl hsz) rfl ?_
          exact ⟨zeroP, rfl, hzz, hza, hb9, .inl rfl, .inl rfl⟩
      | some d =>
        obtain rfl : E = 0 := hE2.symm
        have hyt : y.n = toldN (namesP l) (pathB ns) 0 := by rw [hTT.out d rfl]; exact hy
        obtain ⟨W9, hW9, hth9, hk9, hb9⟩ := put_res hM4.rs y hM4.bl (by omega)
        have hrn := hbn.range
        replace hya : y.At W9 := by rw [← hW9]; exact hya.cells hyo hlt2 0 y.cs
        have hyw : y.Own w.heap.size W9 := hyo.lower (by omega) (by rw [← hW9]; exact Nat.le_trans hB4.size (cells_size _ _ _ _))
        clear hbad hE2 hTT hy
        as_aux_lemma =>
          go_wp2_with (first | (refine wpList_store_row rfl _ _ rfl W3.heap.size rfl y.cs rfl hth4 hszy (pn_one y) hW4 ?_) | (refine wpList_load_row rfl _ rfl W3.heap.size rfl y.cs hrn hund rfl hszy ?_) | (refine wpList_store_part rfl _ _ rfl (w.heap.size + 1) 0 rfl y.cs rfl hth9 hszy (pn_one y) hW9 ?_) | fail)
          refine bodyPost_ret (v := .tuple #[.agg y.cs.toArray, .int .i64 0]) (results_row2 rfl _ _ (w.heap.size + 1) rfl (.int .i64 0) rfl y.cs hk9.range hund rfl hszy) rfl ?_
          exact ⟨y, rfl, hyt, hya, hb9, hyw⟩
end Go.Proofs.YtidihdiffiffmaaGreatDoor
namespace Go.Proofs.YtidihdiffiffmaaGreatDoor
open Go.RowKit
set_option maxRecDepth 8000
set_option linter.unusedSimpArgs false
set_option linter.unusedVariables false
def PN.Off (y : PN) (b : Nat) : Prop := InBlk y.aa (fun g => g ≠ b) ∧ InBlk y.wa (fun g => g ≠ b)
theorem PN.At.off {y : PN} {W : World} {g : Nat} (h : y.At W) (ho : y.Off g) (o : Nat) (vs : List Value) : y.At (W.setCells g o vs) :=
  ⟨grs_keep h.g (ho.1.imp fun k hk => heap_setCells_other (b := g) (k := k) hk vs o W), wrds_keep h.w (ho.2.imp fun k hk => heap_setCells_other (b := g) (k := k) hk vs o W)⟩
theorem PN.Own.off {y : PN} {W : World} {b g : Nat} (h : y.Own b W) (hg : g < b ∨ W.heap.size ≤ g) : y.Off g := ⟨h.1.imp fun k hk => by omega, h.2.imp fun k hk => by omega⟩
set_option maxRecDepth 20000 in
set_option maxHeartbeats 8000000 in
theorem mmay_any (a : Option Addr) (cap : Nat) (l : List PN) (u : ByteArray) (t : Lab) (p : ByteArray) (m : Int) (hF : FineL l) (hGt : GL t) (hp : p.size ≤ 1000) (w : World) (h : RowN w a l) (hV : MaxV w) :
    Calls Tryz.prog 21 #[.slice a l.length cap, .agg (sbL u t).toArray, .string p, .int .i64 m] w fun e w' => ∃ f : PN, e = .returned (.tuple #[.agg f.cs.toArray, .int .i64 (mayE (namesP l) u t p m)]) ∧ f.n = toldN (namesP l) p (mayE (namesP l) u t p m) ∧ f.At w' ∧ Below w.heap.size w w' ∧ f.Own w.heap.size w' := by
  have hund := Tryz.underlying36
  have hundM := Tryz.underlying52
  have hsz : (Tryz.prog.info? 36).map (·.size) = some zeroP.cs.length := by kernel_rfl
  have hszN : (Tryz.prog.info? 36).map (·.size) = some 16 := by kernel_rfl
  have hsm : (Tryz.prog.info? 52).map (·.size) = some 5 := by kernel_rfl
  have ks := fun W (r : RowN W a l) (q : MaxV W) => msee_any a cap l u t p hF hGt hp W r q
  obtain ⟨E, hE⟩ : ∃ E, mayE (namesP l) u t p m = E := ⟨_, rfl⟩
  rw [hE]
  unfold mayE at hE
  obtain ⟨n, hn⟩ : ∃ n, l.length = n := ⟨_, rfl⟩
  rw [hn] at ks ⊢
  replace hn : Aside (l.length = n) := hn
  have h0 := ms_startM w u t
  have hbad := True.intro
  by_cases hm : m < 1 ∨ 7 < m
  · rw [if_pos hm] at hE
    subst hE
    clear ks
    by_cases hm1 : m < 1
    · go_enter Tryz.func21, Tryz.ntmps21
      go_upto_region 2 with fail
      generalize (w.alloc (.cells (sbL u t).toArray 52)).alloc (.cells zN 36) = W0 at *
      obtain ⟨W9, hW9, hth9, hk9, hb9⟩ := put_res h0.rs zeroP h0.bl (by omega)
      have hzz : zeroP.n = toldN (namesP l) p 1 := told_zero (by decide)
      have hza := zero_atM W9
      clear hbad
      as_aux_lemma =>
        go_wp2_with (first | (refine wpList_store_part rfl _ _ rfl (w.heap.size + 1) 0 rfl zeroP.cs rfl hth9 hsz (pn_one zeroP) hW9 ?_) | fail)
        refine bodyPost_ret (v := .tuple #[.agg zeroP.cs.toArray, .int .i64 1]) (results_row2 rfl _ _ (w.heap.size + 1) rfl (.int .i64 1) rfl zeroP.cs hk9.range hund rfl hsz) rfl ?_
        exact ⟨zeroP, rfl, hzz, hza, hb9, .inl rfl, .inl rfl⟩
    · have hm7 : 7 < m := by omega
      go_enter Tryz.func21, Tryz.ntmps21
      go_upto_region 2 with fail
      generalize (w.alloc (.cells (sbL u t).toArray 52)).alloc (.cells zN 36) = W0 at *
      obtain ⟨W9, hW9, hth9, hk9, hb9⟩ := put_res h0.rs zeroP h0.bl (by omega)
      have hzz : zeroP.n = toldN (namesP l) p 1 := told_zero (by decide)
      have hza := zero_atM W9
      clear hbad
      as_aux_lemma =>
        go_wp2_with (first | (refine wpList_store_part rfl _ _ rfl (w.heap.size + 1) 0 rfl zeroP.cs rfl hth9 hsz (pn_one zeroP) hW9 ?_) | fail)
        refine bodyPost_ret (v := .tuple #[.agg zeroP.cs.toArray, .int .i64 1]) (results_row2 rfl _ _ (w.heap.size + 1) rfl (.int .i64 1) rfl zeroP.cs hk9.range hund rfl hsz) rfl ?_
        exact ⟨zeroP, rfl, hzz, hza, hb9, .inl rfl, .inl rfl⟩
  rw [if_neg hm] at hE
  have hm1 : ¬ m < 1 := by omega
  have hm7 : ¬ 7 < m := by omega
  clear hm
  obtain ⟨SE, hSE⟩ : ∃ SE, seeE (namesP l) t p = SE := ⟨_, rfl⟩
  rw [hSE] at hE ks
  have hrs := h0.bx.range
  go_enter Tryz.func21, Tryz.ntmps21
  go_upto_region 3 with fail
  generalize (w.alloc (.cells (sbL u t).toArray 52)).alloc (.cells zN 36) = W0 at *
  go_wp2_with (first | (refine wpList_load_row rfl _ rfl w.heap.size rfl (sbL u t) hrs hundM rfl hsm ?_) | fail)
  refine (ks W0 (h.below h0.bl) (hV.below h0.bl)).mono ?_
  rintro e W2 ⟨f, rfl, hfn, hfa, hB2, hfo⟩
  have hM2 := h0.then hB2
  have hlt2 : w.heap.size + 1 < W0.heap.size := h0.rs.2
  obtain ⟨W4, hW4, hth4, hbn, hB4⟩ := put_new W2 zN 36 f.cs (by rw [pn_len]; rfl) (by rw [pn_len]; omega)
  have hM4 := hM2.then hB4
  replace hfa := hfa.below hB4
  replace hfo : f.Own (w.heap.size + 2) W4 := hfo.lower (by omega) hB4.size
  clear ks h0 hrs hB2 hM2 hB4
  go_upto_region 4 with (first | (refine wpList_store_row rfl _ _ rfl W2.heap.size rfl f.cs rfl hth4 (by rw [pn_len]; exact hszN) (pn_one f) hW4 ?_) | fail)
  generalize W2.heap.size = bn at *
  clear hth4 hW4
  by_cases hs0 : SE = 0
  rotate_left
  · rw [if_pos hs0] at hE
    subst hE
    clear hfn
    obtain ⟨W9, hW9, hth9, hk9, hb9⟩ := put_res hM4.rs zeroP hM4.bl (by omega)
    have hzz : zeroP.n = toldN (namesP l) p SE := told_zero hs0
    have hza := zero_atM W9
    clear hbad
    as_aux_lemma =>
      go_wp2_with (first | (refine wpList_store_part rfl _ _ rfl (w.heap.size + 1) 0 rfl zeroP.cs rfl hth9 hsz (pn_one zeroP) hW9 ?_) | fail)
      refine bodyPost_ret (v := .tuple #[.agg zeroP.cs.toArray, .int .i64 SE]) (results_row2 rfl _ _ (w.heap.size + 1) rfl (.int .i64 SE) rfl zeroP.cs hk9.range hund rfl hsz) rfl ?_
      exact ⟨zeroP, rfl, hzz, hza, hb9, .inl rfl, .inl rfl⟩
  subst hs0
  obtain ⟨d, hfd⟩ := see_find hSE
  have hdm := findP_in hfd
  rw [if_neg (by simp), find_names, hfd] at hE
  have hfd2 : f.n = d.n := by
    rw [hfn]
    unfold toldN
    rw [if_pos rfl, find_names, hfd]
    rfl
  replace hE : modE d.n u t m = E := hE
  rw [← hfd2] at hE
  have ku := muse_any f u t m (by omega) (by omega) hGt (by rw [hfd2]; exact hF.lab hdm) (by rw [hfd2]; exact hF.acl d hdm) W4 hfa
  rw [hE] at ku
  have hrs := hM4.bx.range
  have hrf := hbn.range
  have hszf : (Tryz.prog.info? 36).map (·.size) = some f.cs.length := by rw [pn_len]; exact hszN
  replace hSE : Aside _ := hSE
  replace hfd : Aside _ := hfd
  replace hfd2 : Aside _ := hfd2
  replace hfn : Aside _ := hfn
  clear hE
  go_wp2_with (first | (refine wpList_load_row rfl _ rfl bn rfl f.cs hrf hund rfl hszf ?_) | (refine wpList_load_row rfl _ rfl w.heap.size rfl (sbL u t) hrs hundM rfl hsm ?_) | fail)
  refine ku.mono ?_
  rintro e W5 ⟨rfl, hB5⟩
  have hM5 := hM4.then hB5
  replace hbn := stab_blk _ _ _ _ hbn hB5
  replace hfa := hfa.below hB5
  replace hfo := hfo.lower (Nat.le_refl _) hB5.size
  clear ku hrs hrf hM4 hB5 hszf
  by_cases hs0 : E = 0
  rotate_left
  · clear hfn hfd2 hfd hSE
    obtain ⟨W9, hW9, hth9, hk9, hb9⟩ := put_res hM5.rs zeroP hM5.bl (by omega)
    have hzz : zeroP.n = toldN (namesP l) p E := told_zero hs0
    have hza := zero_atM W9
    clear hbad
    as_aux_lemma =>
      go_wp2_with (first | (refine wpList_store_part rfl _ _ rfl (w.heap.size + 1) 0 rfl zeroP.cs rfl hth9 hsz (pn_one zeroP) hW9 ?_) | fail)
      refine bodyPost_ret (v := .tuple #[.agg zeroP.cs.toArray, .int .i64 E]) (results_row2 rfl _ _ (w.heap.size + 1) rfl (.int .i64 E) rfl zeroP.cs hk9.range hund rfl hsz) rfl ?_
      exact ⟨zeroP, rfl, hzz, hza, hb9, .inl rfl, .inl rfl⟩
  subst hs0
  obtain ⟨W9, hW9, hth9, hk9, hb9⟩ := put_res hM5.rs f hM5.bl (by omega)
  have hrn := hbn.range
  have hszf : (Tryz.prog.info? 36).map (·.size) = some f.cs.length := by rw [pn_len]; exact hszN
  have hfa9 : f.At W9 := by rw [← hW9]; exact hfa.cells hfo (by omega) 0 f.cs
  have hfw : f.Own w.heap.size W9 := hfo.lower (by omega) (by rw [← hW9]; exact cells_size _ _ _ _)
  have hft : f.n = toldN (namesP l) p 0 := hfn.out
  clear hbad
  as_aux_lemma =>
    go_wp2_with (first | (refine wpList_load_row rfl _ rfl bn rfl f.cs hrn hund rfl hszf ?_) | (refine wpList_store_part rfl _ _ rfl (w.heap.size + 1) 0 rfl f.cs rfl hth9 hszf (pn_one f) hW9 ?_) | fail)
    refine bodyPost_ret (v := .tuple #[.agg f.cs.toArray, .int .i64 0]) (results_row2 rfl _ _ (w.heap.size + 1) rfl (.int .i64 0) rfl f.cs hk9.range hund rfl hszf) rfl ?_
    exact ⟨f, rfl, hft, hfa9, hb9, hfw⟩
end Go.Proofs.YtidihdiffiffmaaGreatDoor
namespace Go.Proofs.YtidihdiffiffmaaGreatDoor
open Go.RowKit
set_option maxRecDepth 8000
set_option linter.unusedSimpArgs false
set_option linter.unusedVariables false
theorem idx3 {i : Nat} (hi : i < 3) (w : World) : (Instr.index 176 (.agg #[.int .i64 1, .int .i64 2, .int .i64 4]) (.int .i64 (i : Int))).run Tryz.prog w = .ok (.int .i64 (bitK i)) w := by
  have h1 := Tryz.underlying176
  have h2 := Tryz.underlying3
  obtain ⟨j, hj⟩ : ∃ j, Tryz.prog.info? 3 = some j ∧ j.size = 1 := by
    have h3 : (Tryz.prog.info? 3).map (·.size) = some 1 := by kernel_rfl
    cases hi : Tryz.prog.info? 3 with
    | none => rw [hi] at h3; cases h3
    | some j => exact ⟨j, rfl, by rw [hi] at h3; exact Option.some.inj h3⟩
  match i, hi with
  | 0, _ => simp [Instr.index, asIntOf, run_underlying h1, run_underlying h2, part, isAgg, sizeOf, typeInfo, hj.1, hj.2, bitK]
  | 1, _ => simp [Instr.index, asIntOf, run_underlying h1, run_underlying h2, part, isAgg, sizeOf, typeInfo, hj.1, hj.2, bitK]
  | 2, _ => simp [Instr.index, asIntOf, run_underlying h1, run_underlying h2, part, isAgg, sizeOf, typeInfo, hj.1, hj.2, bitK]
set_option maxRecDepth 8000 in
set_option maxHeartbeats 4000000 in
theorem pmods_any (a : Option Addr) (cap : Nat) (l : List PN) (u : ByteArray) (t : Lab) (p : ByteArray) (hF : FineL l) (hGt : GL t) (hp : p.size ≤ 1000) (w : World) (h : RowN w a l) (hV : MaxV w) :
    Calls Tryz.prog 60 #[.slice a l.length cap, .agg (sbL u t).toArray, .string p] w fun e w' => e = .returned (.int .i64 (modsP (namesP l) u t p)) ∧ Below w.heap.size w w' := by
  have hundS := Tryz.underlying52
  have hszN : (Tryz.prog.info? 36).map (·.size) = some 16 := by kernel_rfl
  have hss : (Tryz.prog.info? 52).map (·.size) = some 5 := by kernel_rfl
  have km := fun W (r : RowN W a l) (hv : MaxV W) (m : Int) => mmay_any a cap l u t p m hF hGt hp W r hv
  obtain ⟨n, hn⟩ : ∃ n, l.length = n := ⟨_, rfl⟩
  rw [hn] at km ⊢
  replace hn : Aside (l.length = n) := hn
  have hb0 := blkl_alloc w (sbL u t).toArray 52
  have hB0 := alloc_below w (.cells (sbL u t).toArray 52)
  replace hb0 : BlkL w.heap.size (sbL u t) (w.alloc (.cells (sbL u t).toArray 52)) := hb0
  go_enter Tryz.func60, Tryz.ntmps60
  go_upto_region 2 with fail
  generalize w.alloc (.cells (sbL u t).toArray 52) = W0 at *
  go_wp2_with fail
  go_loopw [7, 13] (fun t7 t13 wr => ∃ i : Nat, i ≤ 3 ∧ t13 = .int .i64 (i : Int) ∧ t7 = .int .i64 (modK (namesP l) u t p i) ∧ BlkL w.heap.size (sbL u t) wr ∧ Below w.heap.size w wr) (fun _ t13 _ => 3 - (Go.RowKit.intOf t13).toNat)
  case atStart => exact ⟨0, by omega, rfl, rfl, hb0, hB0⟩
  case round =>
    clear hb0 hB0
    obtain ⟨i, hi, rfl, rfl, hb, hB⟩ := hrel
    by_cases hlt : i < 3
    · obtain ⟨k1, k2, -, -⟩ := modK_step (namesP l) u t p hlt
      have hidx := fun W => idx3 hlt W
      have kb := km wr (h.below hB) (hV.below hB) (bitK i)
      have hrs := hb.range
      obtain ⟨E1, hE1⟩ : ∃ E1, mayE (namesP l) u t p (bitK i) = E1 := ⟨_, rfl⟩
      rw [hE1] at kb k1 k2
      obtain ⟨M1, hM1⟩ : ∃ M1, modK (namesP l) u t p i = M1 := ⟨_, rfl⟩
      rw [hM1] at k1 k2 ⊢
      obtain ⟨M2, hM2⟩ : ∃ M2, modK (namesP l) u t p (i + 1) = M2 := ⟨_, rfl⟩
      rw [hM2] at k1 k2
      obtain ⟨b1, hb1⟩ : ∃ b1, bitK i = b1 := ⟨_, rfl⟩
      rw [hb1] at kb k1 hidx
      replace hM2 : Aside _ := hM2
      clear hE1 hM1 hb1 km
      go_upto_region 5 with fail
      clear hidx
      go_wp2_with (first | (refine wpList_load_row rfl _ rfl w.heap.size rfl (sbL u t) hrs hundS rfl hss ?_) | fail)
      refine kb.mono ?_
      rintro e W1 ⟨f, rfl, -, -, hb1, -⟩
      obtain ⟨W2, hW2, hth2, -, hB2⟩ := put_new W1 #[.string ⟨#[]⟩, .bool false, .int .i64 0, .int .i64 0, .int .i64 0, .int .i64 0, .slice none 0 0, .int .i64 0, .int .i64 0, .int .i64 0, .int .i64 0, .slice none 0 0, .int .i64 0, .int .i64 0, .int .i64 0, .int .i64 0] 36 f.cs (by rw [pn_len]; rfl) (by rw [pn_len]; decide)
      have hB3 := Below.then (Below.then hB hb1) hB2
      have hb3 := stab_blk _ _ _ _ (stab_blk _ _ _ _ hb hb1) hB2
      have hszT : (Tryz.prog.info? 36).map (·.size) = some f.cs.length := by rw [pn_len]; exact hszN
      have hone : ∀ v ∈ f.cs, v.oneCell' = true := pn_one f
      clear kb hrs hb hB hb1 hB2
      by_cases h0 : E1 = 0
      · have k := k1 h0
        subst h0
        clear k1 k2
        go_wp2_with (first | (refine wpList_store_row rfl _ _ rfl W1.heap.size rfl f.cs rfl hth2 hszT hone hW2 ?_) | fail)
        exact ⟨⟨i + 1, by omega, by simp, by rw [hM2.out], hb3, hB3⟩, by simp [Go.RowKit.intOf]; omega⟩
      · have k := k2 h0
        have hq : (E1 == 0) = false := by simpa using h0
        clear k1 k2 h0
        go_wp2_with (first | (refine wpList_store_row rfl _ _ rfl W1.heap.size rfl f.cs rfl hth2 hszT hone hW2 ?_) | fail)
        exact ⟨⟨i + 1, by omega, by simp, by rw [hM2.out], hb3, hB3⟩, by simp [Go.RowKit.intOf]; omega⟩
    · obtain rfl : i = 3 := by omega
      go_wp2_with fail
      go_ret
      exact ⟨rfl, hB⟩
set_option maxHeartbeats 1000000 in
theorem psame_any (w : World) (bx : Nat) (p : ByteArray) (x : PN) (hb : w.cell? ⟨bx, 0, none⟩ = some (.string p)) :
    Calls Tryz.prog 59 #[.agg x.cs.toArray, .pointer (some ⟨bx, 0, none⟩)] w fun e w' => e = .returned (.bool (eqs x.n.path p)) ∧ Below w.heap.size w w' := by
  have hl : bx < w.heap.size := World.block_lt_of_cell? w _ hb
  obtain ⟨b, he⟩ : ∃ b, eqs x.n.path p = b := ⟨_, rfl⟩
  have he2 : (x.n.path.toList == p.toList) = b := he
  rw [he]
  have hb0 := blkl_alloc w x.cs.toArray 36
  have hB0 := alloc_below w (.cells x.cs.toArray 36)
  have c0 := (hb0.1 0 (.string x.n.path) rfl).1
  have c1 := (hB0.cell (p := ⟨bx, 0, none⟩) hl).trans hb
  obtain ⟨X, hX⟩ : ∃ X, x.cs = X := ⟨_, rfl⟩
  rw [hX] at c0 c1 hB0 ⊢
  clear hX hb0 he hb
  go_enter Tryz.func59, Tryz.ntmps59
  go_wp2_with fail
  go_ret
  exact ⟨rfl, hB0⟩
theorem findP_at {l : List PN} {p : ByteArray} {i : Nat} {x : PN} (hu : l[i]? = some x) : (l.drop i).find? (fun x => eqs x.n.path p) = if eqs x.n.path p = true then some x else (l.drop (i + 1)).find? fun x => eqs x.n.path p := by
  have hil := (List.getElem?_eq_some_iff.1 hu).1
  rw [List.drop_eq_getElem_cons hil, (List.getElem?_eq_some_iff.1 hu).2, List.find?_cons]
  cases eqs x.n.path p <;> rfl
def PIdx (l : List PN) (o : Option PN) (r : Int) : Prop := match o with
  | some x => ∃ i : Nat, r = (i : Int) ∧ l[i]? = some x
  | none => r = -1
set_option maxHeartbeats 1000000 in
theorem pidx_any (w : World) (bx : Nat) (p : ByteArray) (hb : w.cell? ⟨bx, 0, none⟩ = some (.string p)) (a : Option Addr) (l : List PN) (cap : Nat) (hm2 : l.length ≤ 1000000) (hG : RowN w a l) :
    Calls Tryz.prog 58 #[.slice a l.length cap, .func (.func 59) #[] #[.pointer (some ⟨bx, 0, none⟩)]] w fun e w' =>
      ∃ r : Int, e = .returned (.int .i64 r) ∧ PIdx l (findP l p) r ∧ Below w.heap.size w w' := by
  have hund := Tryz.underlying36
  have hszN : (Tryz.prog.info? 36).map (·.size) = some 16 := by kernel_rfl
  obtain ⟨m, hm⟩ : ∃ m, l.length = m := ⟨_, rfl⟩
  rw [hm] at hm2 ⊢
  replace hm : Aside (l.length = m) := hm
  have hr0 : Aside (findP l p = (l.drop 0).find? fun x => eqs x.n.path p) := rfl
  obtain ⟨o, ho⟩ : ∃ o, findP l p = o := ⟨_, rfl⟩
  rw [ho] at hr0 ⊢
  clear ho
  go_enter Tryz.func58, Tryz.ntmps58
  go_wp2_with fail
  go_loopw [8] (fun t wr => ∃ q : Nat, q ≤ m ∧ t = .int .i64 (q : Int) ∧ Below w.heap.size w wr ∧ Aside (o = (l.drop q).find? fun x => eqs x.n.path p)) (fun t _ => m - (Go.RowKit.intOf t).toNat)
  case atStart => exact ⟨0, by omega, rfl, Below.refl _ _, hr0⟩
  case round =>
    obtain ⟨q, hq, rfl, hB, hall⟩ := hrel
    by_cases hlt : q < m
    · obtain ⟨x, hu⟩ : ∃ x, l[q]? = some x := ⟨_, List.getElem?_eq_getElem (by rw [hm.out]; omega)⟩
      rw [findP_at hu] at hall
      have hrow := hG.below hB
      obtain ⟨y, rfl⟩ := hrow.some_ hu
      have hw := hrow.r.at pn_len hu
      have cS := psame_any wr bx p x ((hB.cell (p := ⟨bx, 0, none⟩) (World.block_lt_of_cell? w _ hb)).trans hb)
      obtain ⟨cs, hcs⟩ : ∃ cs, x.cs = cs := ⟨_, rfl⟩
      have hlen : cs.length = 16 := by rw [← hcs]; rfl
      rw [hcs] at hw cS
      have hszc : (Tryz.prog.info? 36).map (·.size) = some cs.length := by rw [hlen]; exact hszN
      clear hb hrow hcs hlen
      cases he : eqs x.n.path p
      · rw [he, if_neg (by simp)] at hall
        rw [he] at cS
        clear he hu
        go_wp2_with (first | (refine wpList_load_at rfl _ rfl (y.add (q * 16)) rfl cs hw hund rfl hszc ?_) | fail)
        refine cS.mono ?_
        rintro e w1 ⟨rfl, hB1⟩
        go_wp2_with fail
        exact ⟨⟨q + 1, by omega, by simp, Below.then hB hB1, hall⟩, by simp [Go.RowKit.intOf]; omega⟩
      · rw [he, if_pos rfl] at hall
        rw [he] at cS
        have hfin : PIdx l o (q : Int) := by
          rw [hall.out]
          exact ⟨q, rfl, hu⟩
        clear he hu hall
        go_wp2_with (first | (refine wpList_load_at rfl _ rfl (y.add (q * 16)) rfl cs hw hund rfl hszc ?_) | fail)
        refine cS.mono ?_
        rintro e w1 ⟨rfl, hB1⟩
        go_wp2_with fail
        go_ret
        exact ⟨_, rfl, hfin, Below.then hB hB1⟩
    · have hfin : PIdx l o (-1) := by
        rw [hall.out, List.drop_eq_nil_of_le (by rw [hm.out]; omega)]
        exact rfl
      go_wp2_with fail
      go_ret
      exact ⟨_, rfl, hfin, hB⟩
end Go.Proofs.YtidihdiffiffmaaGreatDoor
namespace Go.Proofs.YtidihdiffiffmaaGreatDoor
open Go.RowKit
set_option maxRecDepth 8000
set_option linter.unusedSimpArgs false
set_option linter.unusedVariables false
theorem strQ_load (w : World) (y : Addr) (v : Value) (h : w.cell? y = some v) : (Instr.loadAt 9 (.pointer (some y))).run Tryz.prog w = .ok v w := by
  have h1 := Tryz.underlying9
  go_simp
section
variable {ops : Array Oper} {o : Oper} {a : Act} {w w' : World} {Q : Exit → Act → World → Prop} {T : TypeId}
theorem step_mapU {K : Act → World → Prop} {E : Prop} (hg : o.guard = none) (x y z : Operand) (ho : o.op = .mapUpdate T x y z) (m : Value) (hx : a.eval x = m) (k : Value) (hy : a.eval y = k) (v : Value) (hz : a.eval z = v) (hs : (Instr.mapUpdate T m k v).run Tryz.prog w = .ok () w') (hK : K (a.put o.dst undef) w') :
    if Region.wanted o (yielded ops a.tmps) = true then Oper.wp Tryz.prog o a w K Q else E := by
  have hw : Region.wanted o (yielded ops a.tmps) = true := by simp [Region.wanted, hg]
  rw [if_pos hw]
  unfold Oper.wp
  simp [execOp, ho, hx, hy, hz, hs, Result.andThen]
  exact hK
end
structure KS (b bx B n i : Nat) (u : ByteArray) (t : Lab) (p : ByteArray) (d : PN) (l : List PN) (W : World) : Prop where
  row : RowN W (some ⟨B, 0, none⟩) l
  sb : BlkL b (sbL u t) W
  px : W.cell? ⟨bx, 0, none⟩ = some (.string p)
  wd : W.cell? ⟨B, i * 16 + 11, none⟩ = some (.slice d.wa d.n.words.length d.cw)
  rg : W.rangeAt B (i * 16 + 7) [.int .i64 d.n.r1, .int .i64 d.n.r2, .int .i64 d.n.r3, .int .i64 d.n.gates]
theorem KS.then {b bx B n i : Nat} {u : ByteArray} {t : Lab} {p : ByteArray} {d : PN} {l : List PN} {W W' : World} (h : KS b bx B n i u t p d l W) (k : Below W.heap.size W W') : KS b bx B n i u t p d l W' :=
  ⟨h.row.below k, stab_blk _ _ _ _ h.sb k, (k.cell (World.block_lt_of_cell? _ _ h.px)).trans h.px, (k.cell (World.block_lt_of_cell? _ _ h.wd)).trans h.wd, fun j v hv => (k.cell (World.block_lt_of_cell? _ _ (h.rg j v hv))).trans (h.rg j v hv)⟩
theorem MapI.kept {W W' : World} {b : Nat} {val : Int → Value} {live : Int → Bool} (h : MapI W b val live) (hk : ∀ j, j ≠ b → W'.heap[j]? = W.heap[j]?) (y : Addr) (v : Value) (hc : W.cell? y = some v) : W'.cell? y = some v := by
  by_cases hy : y.block = b
  · obtain ⟨es, clock, hb, -⟩ := h
    rw [← hy] at hb
    simp [World.cell?, hb] at hc
  · exact (World.cell?_of_block (hk y.block hy)).trans hc
theorem RowAt.cells {α : Type} {sz : Nat} {f : α → List Value} {W W' : World} {a : Option Addr} {l : List α} (hf : ∀ x, (f x).length = sz) (h : RowAt sz f W a l) (hc : ∀ y v, W.cell? y = some v → W'.cell? y = some v) : RowAt sz f W' a l := fun j x hx => by
  obtain ⟨y, hy, h1⟩ := h j x hx
  refine ⟨y, hy, fun i hi => ?_⟩
  have h2 := h1 i hi
  obtain ⟨u, hu⟩ : ∃ u, (f x)[i]? = some u := ⟨_, List.getElem?_eq_getElem (by rw [hf]; exact hi)⟩
  rw [hu] at h2 ⊢
  exact hc _ _ h2
theorem RowN.cells {W W' : World} {a : Option Addr} {l : List PN} (h : RowN W a l) (hc : ∀ y v, W.cell? y = some v → W'.cell? y = some v) : RowN W' a l :=
  ⟨h.r.cells pn_len hc, fun x hx => ⟨row_grs ((grs_row (h.p x hx).g).cells (fun _ => rfl) hc), row_wrds ((wrds_row (h.p x hx).w).cells (fun _ => rfl) hc)⟩⟩
theorem KS.mapped {b bx B n i m : Nat} {u : ByteArray} {t : Lab} {p : ByteArray} {d : PN} {l : List PN} {W W' : World} {val : Int → Value} {live : Int → Bool} (h : KS b bx B n i u t p d l W) (hm : MapI W m val live) (hz : W.heap.size ≤ W'.heap.size) (hk : ∀ j, j ≠ m → W'.heap[j]? = W.heap[j]?) (hbm : b ≠ m) : KS b bx B n i u t p d l W' :=
  ⟨h.row.cells (hm.kept hk), ⟨h.sb.1.same (hk b hbm), Nat.lt_of_lt_of_le h.sb.2 hz⟩, hm.kept hk _ _ h.px, hm.kept hk _ _ h.wd, fun j v hv => hm.kept hk _ _ (h.rg j v hv)⟩
theorem row_parts {W : World} {B i : Nat} {l : List PN} {d : PN} (h : RowN W (some ⟨B, 0, none⟩) l) (hd : l[i]? = some d) : W.cell? ⟨B, i * 16 + 1, none⟩ = some (.bool d.n.dir) ∧ W.cell? ⟨B, i * 16 + 11, none⟩ = some (.slice d.wa d.n.words.length d.cw) ∧ W.rangeAt B (i * 16 + 7) [.int .i64 d.n.r1, .int .i64 d.n.r2, .int .i64 d.n.r3, .int .i64 d.n.gates] := by
  obtain ⟨y, hy, hc⟩ := h.r i d hd
  injection hy with hy
  subst hy
  have hc' : ∀ j, j < 16 → W.cell? ⟨B, i * 16 + j, none⟩ = d.cs[j]? := fun j hj => by
    have := hc j hj
    rwa [add_at] at this
  refine ⟨hc' 1 (by omega), hc' 11 (by omega), fun j v hv => ?_⟩
  have hj : j < 4 := (List.getElem?_eq_some_iff.1 hv).1
  have h1 := hc' (7 + j) (by omega)
  rw [show i * 16 + (7 + j) = i * 16 + 7 + j from by omega] at h1
  rw [h1]
  match j, hj with
  | 0, _ => exact hv
  | 1, _ => exact hv
  | 2, _ => exact hv
  | 3, _ => exact hv
theorem kn_at {bs : List ByteArray} {l : List PN} {u : ByteArray} {t : Lab} {k : Nat} {p : ByteArray} (h : bs[k]? = some p) : knP (bs.map (segQ l u t)) (k : Int) = segQ l u t p := by
  unfold knP
  rw [if_neg (by omega), Int.toNat_natCast, List.getD_eq_getElem?_getD, List.getElem?_map, h]
  rfl
theorem live_next {gs : List Sg} {k : Nat} {g : Sg} (hk : kn gs (k : Int) = g ∧ g.is = true) (j : Int) : (decide (j < (((k + 1 : Nat) : Int))) && (kn gs j).is) = (decide (j = (k : Int)) || (decide (j < (k : Int)) && (kn gs j).is)) := by
  by_cases h1 : j = (k : Int)
  · subst h1
    rw [hk.1, hk.2, decide_eq_true (show (k : Int) < ((k + 1 : Nat) : Int) by omega), decide_eq_true rfl]
    rfl
  · by_cases h2 : j < (k : Int)
    · rw [decide_eq_true (show j < ((k + 1 : Nat) : Int) by omega), decide_eq_true h2, decide_eq_false h1]
      rfl
    · rw [decide_eq_false (show ¬ j < ((k + 1 : Nat) : Int) by omega), decide_eq_false h2, decide_eq_false h1]
      rfl
theorem live_skip {gs : List Sg} {k : Nat} (hk : (kn gs (k : Int)).is = false) (j : Int) : (decide (j < (((k + 1 : Nat) : Int))) && (kn gs j).is) = (decide (j < (k : Int)) && (kn gs j).is) := by
  by_cases h1 : j = (k : Int)
  · subst h1
    rw [hk, Bool.and_false, Bool.and_false]
  · by_cases h2 : j < (k : Int)
    · rw [decide_eq_true (show j < ((k + 1 : Nat) : Int) by omega), decide_eq_true h2]
    · rw [decide_eq_false (show ¬ j < ((k + 1 : Nat) : Int) by omega), decide_eq_false h2]
theorem live_none (gs : List Sg) (j : Int) : (decide (j < (((0 : Nat) : Int))) && (kn gs j).is) = false := by
  by_cases hj : j < 0
  · have : (kn gs j).is = false := by unfold kn; rw [if_pos hj]; rfl
    rw [this, Bool.and_false]
  · rw [decide_eq_false (show ¬ j < ((0 : Nat) : Int) from hj)]
    rfl
theorem live_all {gs : List Sg} {k : Nat} (h : gs.length = k) (j : Int) : (kn gs j).is = (decide (j < (k : Int)) && (kn gs j).is) := by
  by_cases hj : j < (k : Int)
  · rw [decide_eq_true hj]
    rfl
  · have : (kn gs j).is = false := by
      unfold kn
      rw [if_neg (by omega), List.getD_eq_getElem?_getD, List.getElem?_eq_none (by omega)]
      rfl
    rw [this, Bool.and_false]
set_option maxRecDepth 8000 in
set_option maxHeartbeats 8000000 in
theorem pknown_any (B cap : Nat) (l : List PN) (u : ByteArray) (t : Lab) (ba : Option Addr) (bc : Nat) (bs : List ByteArray) (hF : FineL l) (hGt : GL t) (hbs : bs.length ≤ 4) (hps : ∀ p ∈ bs, p.size ≤ 1000) (w : World) (h : RowN w (some ⟨B, 0, none⟩) l) (hbl0 : B < w.heap.size) (hRB : RowAt 1 scl w ba bs) (hV : MaxV w) :
    Calls Tryz.prog 36 #[.slice (some ⟨B, 0, none⟩) l.length cap, .agg (sbL u t).toArray, .slice ba bs.length bc] w fun e w' => ∃ mb, e = .returned (.map (some mb)) ∧ w.heap.size ≤ mb ∧ MapI w' mb (segV (bs.map (segQ l u t))) (fun k => (kn ((bs.map (segQ l u t)).map (·.g)) k).is) ∧ Below w.heap.size w w' := by
  have hundS := Tryz.underlying52
  have hundN := Tryz.underlying36
  have hundR := Tryz.underlying33
  have hszN : (Tryz.prog.info? 36).map (·.size) = some 16 := by kernel_rfl
  have hss : (Tryz.prog.info? 52).map (·.size) = some (sbL u t).length := by kernel_rfl
  have hsr : (Tryz.prog.info? 33).map (·.size) = some 4 := by kernel_rfl
  have kidx := fun (W : World) bx p hb hr => pidx_any W bx p hb (some ⟨B, 0, none⟩) l cap (by have := hF.len; omega) hr
  have ksee := fun (W : World) p hp hr hv => msee_any (some ⟨B, 0, none⟩) cap l u t p hF hGt hp W hr hv
  have kmd := fun (W : World) p hp hr hv => pmods_any (some ⟨B, 0, none⟩) cap l u t p hF hGt hp W hr hv
  have hlen := hF.len
  obtain ⟨n, hn⟩ : ∃ n, l.length = n := ⟨_, rfl⟩
  obtain ⟨nb, hnb⟩ : ∃ nb, bs.length = nb := ⟨_, rfl⟩
  rw [hn] at kidx ksee kmd hlen ⊢
  rw [hnb] at hbs ⊢
  replace hn : Aside (l.length = n) := hn
  replace hnb : Aside (bs.length = nb) := hnb
  have hmm := @run_makeMap Tryz.prog
  have hb0 := blkl_alloc w (sbL u t).toArray 52
  have hB0 := alloc_below w (.cells (sbL u t).toArray 52)
  have hB1 := alloc_below (w.alloc (.cells (sbL u t).toArray 52)) (.map #[] 0)
  have hb1 := stab_blk _ _ _ _ hb0 hB1
  have hM1 := mapI_made (w.alloc (.cells (sbL u t).toArray 52)) (segV (bs.map (segQ l u t)))
  rw [World.size_alloc] at hM1
  have hB01 := Below.then hB0 hB1
  replace hb1 : BlkL w.heap.size (sbL u t) ((w.alloc (.cells (sbL u t).toArray 52)).alloc (.map #[] 0)) := hb1
  clear hb0 hB0 hB1
  go_enter Tryz.func36, Tryz.ntmps36
  go_upto_region 2 with fail
  generalize (w.alloc (.cells (sbL u t).toArray 52)).alloc (.map #[] 0) = W1 at *
  have hM2 := hM1.turn (val' := segV (bs.map (segQ l u t))) (live' := fun j => decide (j < (((0 : Nat) : Int))) && (kn ((bs.map (segQ l u t)).map (·.g)) j).is) (fun _ _ => rfl) (live_none _)
  clear hM1 hmm
  go_wp2_with fail
  go_loopw [16] (fun t16 wr => ∃ k : Nat, k ≤ nb ∧ t16 = .int .i64 (k : Int) ∧ BlkL w.heap.size (sbL u t) wr ∧ MapI wr (w.heap.size + 1) (segV (bs.map (segQ l u t))) (fun j => decide (j < (k : Int)) && (kn ((bs.map (segQ l u t)).map (·.g)) j).is) ∧ Below w.heap.size w wr) (fun t16 _ => nb - (Go.RowKit.intOf t16).toNat)
  case atStart => exact ⟨0, by omega, rfl, hb1, hM2, hB01⟩
  case round =>
    clear hb1 hM2 hB01
    obtain ⟨k, hk, rfl, hb, hM, hB⟩ := hrel
    by_cases hlt : k < nb
    · obtain ⟨p, hp⟩ : ∃ p, bs[k]? = some p := ⟨_, List.getElem?_eq_getElem (by rw [hnb.out]; exact hlt)⟩
      have hpz := hps p (List.mem_of_getElem? hp)
      have hkp := kn_at (l := l) (u := u) (t := t) hp
      have hkg := knP_g (bs.map (segQ l u t)) (k : Int)
      rw [hkp] at hkg
      obtain ⟨y, rfl, hyc⟩ := (hRB.below scl_ok.len hB) k p hp
      have hy0 : wr.cell? (y.add k) = some (.string p) := by
        have := hyc 0 (by decide)
        rw [Nat.mul_one, Nat.add_zero] at this
        exact this
      have hB2 := alloc_below wr (.cells #[.string p] 9)
      have hbx : (wr.alloc (.cells #[.string p] 9)).cell? ⟨wr.heap.size, 0, none⟩ = some (.string p) := (blk_alloc wr #[.string p] 9 0 _ rfl).1
      have hw1 : w.heap.size + 1 < wr.heap.size := hM.lt
      clear hyc hkp
      go_upto_region 5 with fail
      clear hy0
      generalize wr.alloc (.cells #[.string p] 9) = V1 at *
      have hb2 := stab_blk _ _ _ _ hb hB2
      have hM2 := hM.same (hB2.block _ hM.lt)
      have hBB2 := Below.then hB hB2
      clear hb hM hB hB2
      go_wp2_with fail
      refine (kidx V1 wr.heap.size p hbx (h.below hBB2)).mono ?_
      rintro e V2 ⟨ix, rfl, hix, hB3⟩
      have hb3 := stab_blk _ _ _ _ hb2 hB3
      have hM3 := hM2.same (hB3.block _ hM2.lt)
      have hBB3 := Below.then hBB2 hB3
      have hbx3 := (hB3.cell (p := ⟨wr.heap.size, 0, none⟩) (World.block_lt_of_cell? _ _ hbx)).trans hbx
      clear hb2 hM2 hBB2 hB3 hbx kidx
      have hrs := hb3.range
      go_wp2_with (first | (refine wpList_load_row rfl _ rfl w.heap.size rfl (sbL u t) hrs hundS rfl hss ?_) | fail)
      refine (ksee V2 p hpz (h.below hBB3) (hV.below hBB3)).mono ?_
      rintro e V3 ⟨f, rfl, -, -, hB4, -⟩
      obtain ⟨V4, hW4, hth4, -, hB5⟩ := put_new V3 #[.string ⟨#[]⟩, .bool false, .int .i64 0, .int .i64 0, .int .i64 0, .int .i64 0, .slice none 0 0, .int .i64 0, .int .i64 0, .int .i64 0, .int .i64 0, .slice none 0 0, .int .i64 0, .int .i64 0, .int .i64 0, .int .i64 0] 36 f.cs (by rw [pn_len]; rfl) (by rw [pn_len]; decide)
      have hB45 := Below.then hB4 hB5
      have hb4 := stab_blk _ _ _ _ hb3 hB45
      have hM4 := hM3.same (hB45.block _ hM3.lt)
      have hBB4 := Below.then hBB3 hB45
      have hbx4 := (hB45.cell (p := ⟨wr.heap.size, 0, none⟩) (World.block_lt_of_cell? _ _ hbx3)).trans hbx3
      have hszT : (Tryz.prog.info? 36).map (·.size) = some f.cs.length := by rw [pn_len]; exact hszN
      have hone : ∀ v ∈ f.cs, v.oneCell' = true := pn_one f
      obtain ⟨E, hE⟩ : ∃ E, seeE (namesP l) t p = E := ⟨_, rfl⟩
      rw [hE]
      clear hrs hb3 hM3 hBB3 hbx3 hB4 hB5 hB45 ksee
      go_upto_region 7 with (first | (refine wpList_store_row rfl _ _ rfl V3.heap.size rfl f.cs rfl hth4 hszT hone hW4 ?_) | fail)
      clear hth4 hW4 hszT hone
      by_cases hE0 : E = 0
      rotate_left
      · have hno : (kn ((bs.map (segQ l u t)).map (·.g)) (k : Int)).is = false := by
          rw [← hkg, segQ_g]
          unfold segP
          rw [if_pos (.inl (by rw [hE]; exact hE0))]
          rfl
        have hM5 := hM4.turn (val' := segV (bs.map (segQ l u t))) (live' := fun j => decide (j < (((k + 1 : Nat) : Int))) && (kn ((bs.map (segQ l u t)).map (·.g)) j).is) (fun _ _ => rfl) (fun j => live_skip hno j)
        have hq : (E != 0) = true := by simpa using hE0
        have hq2 : (E == 0) = false := by simpa using hE0
        clear hM4 hno hkg
        go_wp2_with fail
        exact ⟨⟨k + 1, by omega, by simp, hb4, hM5, hBB4⟩, by simp [Go.RowKit.intOf]; omega⟩
      subst hE0
      obtain ⟨hgm, hfd⟩ : gotP l p ∈ l ∧ findP l p = some (gotP l p) := by
        obtain ⟨_, _, x, hx⟩ := see_zero.1 hE
        rw [find_names] at hx
        obtain ⟨d, hd, _⟩ := Option.map_eq_some_iff.1 hx
        unfold gotP
        rw [hd]
        exact ⟨List.mem_of_find?_eq_some hd, rfl⟩
      have hgn := gotP_n l p
      have hsq : (gotN (namesP l) p).dir = false → segQ l u t p = ⟨segP (namesP l) u t p, (gotP l p).wa, (gotP l p).cw⟩ ∧ segP (namesP l) u t p = ⟨true, (gotP l p).n.words, modsP (namesP l) u t p, (gotP l p).n.rg⟩ := fun q => by
        unfold segQ segP
        rw [if_neg (by rw [hE, q]; simp), if_neg (by rw [hE, q]; simp), hgn]
        exact ⟨rfl, rfl⟩
      have hsz' : (gotN (namesP l) p).dir = true → (segP (namesP l) u t p).is = false := fun q => by
        unfold segP
        rw [if_pos (.inr q)]
        rfl
      rw [hfd] at hix
      obtain ⟨d, hd⟩ : ∃ d, gotP l p = d := ⟨_, rfl⟩
      rw [hd] at hix hgm hsq
      rw [← hgn, hd] at hsq hsz'
      obtain ⟨i, rfl, hi⟩ : ∃ i : Nat, ix = (i : Int) ∧ l[i]? = some d := hix
      have hil : i < n := by rw [← hn.out]; exact (List.getElem?_eq_some_iff.1 hi).1
      have hrow4 := h.below hBB4
      obtain ⟨hdir, hwd, hrg⟩ := row_parts hrow4 hi
      have hi0 : ¬ (i : Int) < 0 := by omega
      have hi1 : (i : Int) < (n : Int) := by omega
      clear hgn hfd hd hgm
      cases hdd : d.n.dir
      rotate_left
      · have hno : (kn ((bs.map (segQ l u t)).map (·.g)) (k : Int)).is = false := by
          rw [← hkg, segQ_g]
          exact hsz' hdd
        have hM5 := hM4.turn (val' := segV (bs.map (segQ l u t))) (live' := fun j => decide (j < (((k + 1 : Nat) : Int))) && (kn ((bs.map (segQ l u t)).map (·.g)) j).is) (fun _ _ => rfl) (fun j => live_skip hno j)
        rw [hdd] at hdir
        clear hM4 hno hkg hsq hsz' hrow4 hwd hrg hi
        go_wp2_with fail
        exact ⟨⟨k + 1, by omega, by simp, hb4, hM5, hBB4⟩, by simp [Go.RowKit.intOf]; omega⟩
      · obtain ⟨hs1, hs2⟩ := hsq hdd
        rw [hdd] at hdir
        have hkn : kn ((bs.map (segQ l u t)).map (·.g)) (k : Int) = segP (namesP l) u t p ∧ (segP (namesP l) u t p).is = true := by
          rw [← hkg, segQ_g]
          exact ⟨rfl, by rw [hs2]⟩
        have hsegV : .agg #[.slice d.wa d.n.words.length d.cw, .int .i64 (modsP (namesP l) u t p), .int .i64 d.n.r1, .int .i64 d.n.r2, .int .i64 d.n.r3, .int .i64 d.n.gates] = segV (bs.map (segQ l u t)) (k : Int) := by
          unfold segV
          rw [kn_at hp, hs1, hs2]
          rfl
        replace hsegV : Aside _ := hsegV
        obtain ⟨W5, hW5⟩ : ∃ W5, V4 = W5 := ⟨_, rfl⟩
        rw [hW5] at hb4 hM4 hBB4 hbx4 hrow4 hdir hwd hrg ⊢
        clear hW5
        have hS0 : KS w.heap.size wr.heap.size B n i u t p d l W5.drew := (KS.mk hrow4 hb4 hbx4 hwd hrg : KS w.heap.size wr.heap.size B n i u t p d l W5).then (Below.refl _ _).drew
        have hMp0 : MapI W5.drew (w.heap.size + 1) (segV (bs.map (segQ l u t))) (fun j => decide (j < (k : Int)) && (kn ((bs.map (segQ l u t)).map (·.g)) j).is) := hM4.same ((Below.refl W5.heap.size W5).drew.block _ hM4.lt)
        have hbB0 : Below w.heap.size w W5.drew := hBB4.drew
        have hV0 : MaxV W5.drew := hV.below hbB0
        have kmod := fun (W : World) r v => kmd W p hpz r v
        go_upto_region 8 with fail
        clear hsq hsz' hs1 hs2 hdir hwd hrg hrow4 hb4 hM4 hBB4 hbx4 hkg hp hi kmd
        refine wp_region_held_drew (S := (fun W => KS w.heap.size wr.heap.size B n i u t p d l W)) (by kernel_rfl) (by exact hS0) ?_
        intro hHeld
        generalize W5.drew = w0 at *
        refine tkA 0 ?_
        refine tkA 1 ?_
        refine tkA 2 ?_
        refine tkA 3 ?_
        refine tkA 4 ?_
        refine tkA 5 ?_
        refine tkB 6 (y := yields_cellI (by rfl) _ rfl ⟨B, i * 16 + 11, none⟩ rfl (.slice d.wa d.n.words.length d.cw) (fun _ s => s.wd) wrdsP_load) (h := ?_)
        refine tkA 7 ?_
        refine tkB 8 (y := yieldsIf_load_mid (by rfl) 52 _ rfl w.heap.size 0 rfl (sbL u t) _ (fun W s => s.sb.range) hundS rfl hss) (h := ?_)
        refine tkB 9 (y := yields_cellI (by rfl) _ rfl ⟨wr.heap.size, 0, none⟩ rfl (.string p) (fun _ s => s.px) strQ_load) (h := ?_)
        refine tkA 11 ?_
        refine tkA 12 ?_
        refine tkA 13 ?_
        refine tkA 14 ?_
        refine tkB 15 (y := yieldsIf_load_mid (by rfl) 33 _ rfl B (i * 16 + 7) rfl [.int .i64 d.n.r1, .int .i64 d.n.r2, .int .i64 d.n.r3, .int .i64 d.n.gates] _ (fun W s => s.rg) hundR rfl hsr) (h := ?_)
        refine tkR (rs := [10]) ?_
        refine tkC (fun K hK => ?_) AllReadyH.nil
        go_simp
        go_at_call 60
        refine (kmod w0 hS0.row hV0 ).mono ?_
        rintro e w1 ⟨rfl, hb1⟩
        have hS1 := hS0.then hb1
        refine hK.out _ _ (hS1) ?_
        clear hHeld hK
        intro hHeld
        have hMp1 := hMp0.same (hb1.block _ hMp0.lt)
        have hbB1 := Below.then hbB0 hb1
        have hbs1 := hS1.sb
        clear hS0 hMp0 hbB0 hb1
        (try simp only [Act.put, zsA, zsB, zsC])
        refine tkA 16 ?_
        refine tkR (rs := [17]) ?_
        refine tkC (fun K hK => ?_) AllReadyH.nil
        obtain ⟨w2, hup, hM2, ho2, ht2, hu2, hz2, hk2⟩ := updI Tryz.underlying108 hMp1 (k : Int) (.agg #[.slice d.wa d.n.words.length d.cw, .int .i64 (modsP (namesP l) u t p), .int .i64 d.n.r1, .int .i64 d.n.r2, .int .i64 d.n.r3, .int .i64 d.n.gates]) (by simp)
        refine step_mapU rfl _ _ _ rfl (.map (some (w.heap.size + 1))) rfl (.int .i64 (k : Int)) rfl (.agg #[.slice d.wa d.n.words.length d.cw, .int .i64 (modsP (namesP l) u t p), .int .i64 d.n.r1, .int .i64 d.n.r2, .int .i64 d.n.r3, .int .i64 d.n.gates]) rfl hup ?_
        (try simp only [Act.put, zsA, zsB, zsC])
        refine hK.out _ _ (hS1.mapped hMp1 (by rw [hz2]; exact Nat.le_refl _) hk2 (by omega)) ?_
        clear hHeld hK
        intro hHeld
        have hb3 : BlkL w.heap.size (sbL u t) w2 := ⟨hbs1.1.same (hk2 _ (by omega)), by rw [hz2]; exact hbs1.2⟩
        have hB3 : Below w.heap.size w w2 := hbB1.trans ⟨ho2, ht2, hu2, by rw [hz2]; exact Nat.le_refl _, fun j hj => hk2 j (by omega)⟩
        have hM3 := hM2.turn (val' := segV (bs.map (segQ l u t))) (live' := fun j => decide (j < (((k + 1 : Nat) : Int))) && (kn ((bs.map (segQ l u t)).map (·.g)) j).is) (fun j hj => by
    by_cases hjk : j = (k : Int)
    · rw [if_pos hjk, hjk]; exact hsegV.out.symm
    · rw [if_neg hjk]) (fun j => live_next hkn j)
        clear hM2 hk2 hup hS1 hMp1 hbs1 hbB1
        (try simp only [Act.put, zsA, zsB, zsC])
        refine wpAnyH_done (by kernel_rfl) ?_ _
        clear hHeld
        go_wp2_with fail
        exact ⟨⟨k + 1, by omega, by simp, hb3, hM3, hB3⟩, by simp [Go.RowKit.intOf]; omega⟩
    · obtain rfl : k = nb := by omega
      go_wp2_with fail
      go_ret
      exact ⟨w.heap.size + 1, rfl, Nat.le_succ _, hM.turn (fun _ _ => rfl) (live_all (by simp [hnb.out])), hB⟩
end Go.Proofs.YtidihdiffiffmaaGreatDoor
