/-
  WHATEVER IS COMMITTED, AND OPENED ANEW: the law's walk.
-/
import Derived.Test.YtnckfmeidcfabaaWalGroups
namespace Go.Proofs.Ytnckfmeidcfabaa
open Go.RowKit Go.Maps

def BoolsAt (w : World) (a : Option Addr) (len : Nat) (B : Nat → Bool) : Prop := len = 0 ∨ ∃ x, a = some x ∧ len ≤ maxLen ∧ ∀ i, i < len → w.cell? (x.add i) = some (.bool (B i))
theorem addOff (x : Addr) (m k : Nat) : x.add (m + (k + 1)) = ⟨(x.add m).block, (x.add m).off + (k + 1), none⟩ := by
  rw [← Go.Deep.add_add]
  simp [Addr.add]

/-- The sectors have what the state says. -/
def Tells (U : Nat → List Int) (S : List ByteArray) : Prop := ∀ k, k < 18 → textOf (U (42 + k)) = wantOf (S.getD k ⟨#[]⟩)
theorem text_some {l : List Int} (h : Sec l) : ¬ textOf l = ⟨#[]⟩ := by
  intro e
  have := text_size l
  rw [e, h.1] at this
  cases this
theorem tells_puts {ps : List PutV} (hb : ∀ x ∈ ps, Sec x.bytes ∧ 42 ≤ x.N ∧ x.N < 60) : ∀ (i : Nat), i ≤ ps.length → ∀ (U : Nat → List Int) (S : List ByteArray), S.length = 18 → Tells U S → Tells (fun k => (userOps ps i).foldl nw U k) (doneOf S (ps.take i))
  | 0, _, U, S, _, h => by simpa [userOps, doneOf] using h
  | i + 1, hi, U, S, hS, h => by
    have ih := tells_puts hb i (by omega) U S hS h
    have hx : ps[i]? = some ps[i] := List.getElem?_eq_getElem (by omega)
    have hxd : ps.getD i zPV = ps[i] := by simp [List.getD, show i < ps.length by omega]
    obtain ⟨b1, b2, b3⟩ := hb ps[i] (List.getElem_mem _)
    rw [doneOf_snoc S ps i _ hx]
    have hl : (doneOf S (ps.take i)).length = 18 := by rw [doneOf_len, hS]
    intro k hk
    have hi2 := ih k hk
    show textOf ((userOps ps (i + 1)).foldl nw U (42 + k)) = _
    rw [userOps_succ, List.foldl_append]
    simp only [List.foldl_cons, List.foldl_nil, nw]
    rw [hxd]
    by_cases e : 42 + k = ps[i].N
    · rw [if_pos e, show ps[i].N - 42 = k by omega]
      have e2 : ((doneOf S (ps.take i)).set k (textOf ps[i].bytes)).getD k ⟨#[]⟩ = textOf ps[i].bytes := by simp [List.getD, hl, hk]
      rw [e2, wantOf, if_neg (text_some b1)]
    · rw [if_neg e]
      have e2 : ((doneOf S (ps.take i)).set (ps[i].N - 42) (textOf ps[i].bytes)).getD k ⟨#[]⟩ = (doneOf S (ps.take i)).getD k ⟨#[]⟩ := by
        rw [List.getD_eq_getElem?_getD, List.getElem?_set_ne (by omega), List.getD_eq_getElem?_getD]
      rw [e2]
      exact hi2

/-- A state is loaded, by an operation that is wanted. -/
theorem wpList_load_stg {ops : Array Oper} {rest : List Oper} {o : Oper} {a : Act} {w : World} {Q : Exit → Act → World → Prop} (hw : Region.wanted o (yielded ops a.tmps) = true) (x : Operand) (ho : o.op = .load 34 x) (b : Nat) (hx : a.eval x = .pointer (some ⟨b, 0, none⟩)) (S : List ByteArray) (hs : S.length = 18) (hr : w.rangeAt b 0 (stCells S))
    (h : wpList Try.prog ops Q rest (a.put o.dst (stOf S)) w) : wpList Try.prog ops Q (o :: rest) a w :=
  wpList_step fun K hK => by
    rw [if_pos hw]
    exact wp_load_mid _ x ho b 0 hx (stCells S) _ hr Try.underlying34 rfl (by rw [size_st, st_len, hs]) (hK _ _ h)

set_option maxRecDepth 4000 in
set_option maxHeartbeats 8000000 in
theorem plays_walk (a0 a1 : Option Addr) (len0 cap0 len1 cap1 : Nat) (Bf : Nat → Bool) (w : World) (hG : GroupsAt w a0 len0) (hB : BoolsAt w a1 len1 Bf) :
    Calls Try.prog 3 #[.slice a0 len0 cap0, .slice a1 len1 cap1] w fun e w' => e = .returned (.bool true) ∧ Below w.heap.size w w' := by
  have hm0 : (len0 : Int) ≤ 9223372036854775807 := by
    rcases hG with ⟨_, h⟩ | ⟨x, _, h, _⟩
    · omega
    · unfold maxLen at h; omega
  have hm1 : (len1 : Int) ≤ 9223372036854775807 := by
    rcases hB with h | ⟨x, _, h, _⟩
    · omega
    · unfold maxLen at h; omega
  have cK := known_any w
  go_enter Try.func3, Try.ntmps3
  go_wp2_with fail
  refine cK.mono ?_
  rintro e w0 ⟨rfl, k0⟩
  clear cK
  have cN := newDisk 60 (by decide) (by decide) w0
  go_wp2_with fail
  refine cN.mono ?_
  rintro e w1 ⟨db, pb, mb, rfl, hD, hdb, hpb, hmb, k1⟩
  clear cN
  have cO := open_fresh hD (by decide)
  go_wp2_with fail
  refine cO.mono ?_
  rintro e w2 ⟨lb, rfl, hlb, W2, k2⟩
  clear cO hD
  have hs0 := k0.size
  have hs1 := k1.size
  have k02 := k0.trans (k1.trans k2)
  clear k0 k1 k2
  obtain ⟨V0, hV0⟩ : ∃ V0, w2.alloc (.cells (stCells noTexts).toArray 34) = V0 := ⟨_, rfl⟩
  have s0 : StAt V0 w2.heap.size noTexts := by rw [← hV0]; exact st_new w2 _ (by simp [noTexts])
  have kV : Kept [] w2 V0 := by rw [← hV0]; exact Kept.of_alloc _ _ _
  have lt2 := W2.lts
  have W3 := W2.kept kV (by simp) (by simp) (by simp) (by simp)
  have k03 := k02.trans kV
  obtain ⟨sb, hsb⟩ : ∃ sb, w2.heap.size = sb := ⟨_, rfl⟩
  have hsw : w.heap.size ≤ sb := by have := k02.size; omega
  rw [hsb] at s0 lt2
  go_wp2_with (first
    | (refine wpList_alloc_st rfl rfl hV0 ?_)
    | fail)
  clear hV0 hsb kV W2 k02
  have ht0 : Tells (fun _ => zeros) noTexts := fun k hk => by
    have : noTexts.getD k ⟨#[]⟩ = ⟨#[]⟩ := by rw [noTexts, List.getD_eq_getElem?_getD, List.getElem?_replicate, if_pos hk]; rfl
    rw [this]; rfl
  have hd0 : w.heap.size ≤ db := by omega
  have hp0 : w.heap.size ≤ pb := by omega
  have hm00 : w.heap.size ≤ mb := by omega
  have hl0 : w.heap.size ≤ lb := by omega
  obtain ⟨lt2a, lt2b, lt2c, lt2d⟩ := lt2
  clear hdb hpb hmb hlb hs0 hs1
  go_loopw [7, 8, 10, 11] (fun t7 t8 t10 t11 wr => ∃ (lb : Nat) (q sq : Int) (S : List ByteArray) (U : Nat → List Int) (B : Nat), 0 ≤ q ∧ q ≤ 30 ∧ t7 = .pointer (some ⟨lb, 0, none⟩) ∧ t8 = .int .i64 0 ∧ t10 = .int .i64 sq ∧ t11 = .int .i64 q ∧ Works wr lb db pb mb 60 B U sq ∧ (B : Int) ≤ 90 * q ∧ 0 ≤ sq ∧ sq ≤ q ∧ StAt wr sb S ∧ Tells U S ∧ Kept [] w wr ∧ w.heap.size ≤ lb ∧ lb ≠ sb) (fun _ _ _ t11 _ => 30 - (Go.RowKit.intOf t11).toNat)
  case atStart => exact ⟨lb, 0, 0, _, _, 0, by omega, by omega, rfl, rfl, rfl, rfl, W3, by omega, by omega, by omega, s0, ht0, k03, hl0, by omega⟩
  case round =>
    clear W3 s0 ht0 k03 hl0 lt2a
    obtain ⟨lb, q, sq, S, U, B, hq0, hq1, rfl, rfl, rfl, rfl, hW, hBq, hs0, hs1, hst, hT, kw, hlw, hls⟩ := hrel
    by_cases hgo : q < len0 ∧ q < 30
    · obtain ⟨g1, g2⟩ := hgo
      obtain ⟨x, rfl, _, hgr⟩ : ∃ x, a0 = some x ∧ len0 ≤ maxLen ∧ ∀ i, i < len0 → GroupAt w x i := hG.resolve_left (by omega)
      obtain ⟨na, fa, ra, nl, nc, fl, fc, rl, rc, Ns, Fs, R, c0, c1, c2, hN, hF, hR, hn, hf, hr⟩ := hgr q.toNat (by omega)
      rw [addOff x (q.toNat * 3) 0] at c1
      rw [addOff x (q.toNat * 3) 1] at c2
      have c0 := (World.cell?_of_block (kw.block _ (World.block_lt_of_cell? _ _ c0) (by simp))).trans c0
      have c1 := (World.cell?_of_block (kw.block _ (World.block_lt_of_cell? _ _ c1) (by simp))).trans c1
      have c2 := (World.cell?_of_block (kw.block _ (World.block_lt_of_cell? _ _ c2) (by simp))).trans c2
      unfold maxLen at hn hf hr
      clear hgr hG
      by_cases h128 : 128 < rl
      · have h128' : (128 : Int) < (rl : Int) := by omega
        clear hN hF hR hB
        go_wp2_with fail
        go_roundw
        case rel => exact ⟨lb, q + 1, sq, S, U, B, by omega, by omega, rfl, rfl, rfl, rfl, hW, by omega, by omega, by omega, hst, hT, kw, hlw, hls⟩
        case measure => simp [Go.RowKit.intOf]; omega
      · have h128' : ¬ (128 : Int) < (rl : Int) := by omega
        have cP := puts_any wr na fa ra nl nc fl fc rl rc Ns Fs R (hN.grown kw) (hF.grown kw) (hR.grown kw) (by omega) (by omega)
        have hsz := kw.size
        have hslt := hst.lt
        have hlts := hW.lts
        clear hN hF hR
        go_wp2_with fail
        refine cP.mono ?_
        rintro e w3 ⟨v, rfl, ps, hP, hpl, k3⟩
        clear cP c0 c1 c2
        have W3 := hW.kept k3 (by simp) (by simp) (by simp) (by simp)
        have s3 := hst.kept k3 (by simp)
        have kw3 := kw.trans k3
        clear hW hst kw
        rcases hP.done with ⟨rfl, rfl⟩ | ⟨pk, cap, rfl, hpk, hpa, hcap⟩
        · have cC := Commit_none (w := w3) (lb := lb) 0 none
          go_wp2_with fail
          refine cC.mono ?_
          rintro e w4 ⟨rfl, k4⟩
          have W4 := W3.kept k4 (by simp) (by simp) (by simp) (by simp)
          have s4 := s3.kept k4 (by simp)
          have kw4 := kw3.trans k4
          clear cC W3 s3 kw3 hP
          have hsl4 := s4.len
          have hsc4 := s4.cells
          have cD := done_none w4 S hsl4
          go_wp2_with (first | (refine wpList_load_st rfl _ rfl _ rfl _ hsl4 hsc4 ?_) | fail)
          refine cD.mono ?_
          rintro e w5 ⟨rfl, k5⟩
          have W5 := W4.kept k5 (by simp) (by simp) (by simp) (by simp)
          have s5 := s4.kept k5 (by simp)
          have kw5 := kw4.trans k5
          obtain ⟨W6, hW6⟩ : ∃ W6, w5.setCells sb 0 (stCells S) = W6 := ⟨_, rfl⟩
          obtain ⟨s6, k6⟩ := st_stored s5 hsl4
          rw [hW6] at s6 k6
          have ht5 := s5.writes
          have P6 := W5.kept k6 (by simp; omega) (by simp; omega) (by simp; omega) (by simp; omega)
          have kw6 : Kept [] w W6 := (kw5.mono (by simp)).trans k6 |>.fewer (by simp; omega)
          clear cD W4 s4 kw4 hsc4 W5 s5 kw5 k6
          by_cases hop : q < len1
          · obtain ⟨x1, rfl, _, hx1⟩ : ∃ x, a1 = some x ∧ len1 ≤ maxLen ∧ ∀ i, i < len1 → w.cell? (x.add i) = some (.bool (Bf i)) := hB.resolve_left (by omega)
            have cb0 := hx1 q.toNat (by omega)
            have cb : W6.cell? (x1.add q.toNat) = some (.bool (Bf q.toNat)) := (World.cell?_of_block (kw6.block _ (World.block_lt_of_cell? _ _ cb0) (by simp))).trans cb0
            clear cb0 hx1 hB
            cases hbq : Bf q.toNat with
            | true =>
              rw [hbq] at cb
              have cO := open_works P6
              go_wp2_with (first | (refine wpList_store_st rfl _ _ rfl _ rfl _ rfl hsl4 ht5 hW6 ?_) | fail)
              refine cO.mono ?_
              rintro e wo ⟨lo, rfl, hlo, Wo, ko⟩
              have so := s6.kept ko (by simp)
              have kwo := kw6.trans ko
              have hsl0 := s6.lt
              have hsz0 := kw6.size
              clear cO P6 ko cb hbq
              have cS := seq_works Wo
              go_wp2_with fail
              refine cS.mono ?_
              rintro e ws ⟨rfl, Ws, ks⟩
              have ss := so.kept ks (by simp; omega)
              have kws : Kept [] w ws := (kwo.mono (by simp)).trans ks |>.fewer (by simp; omega)
              clear cS Wo ks
              have cH := holds_any Ws _ ss.len
              have hsl := ss.len
              have hsc := ss.cells
              go_wp2_with (first | (refine wpList_load_stg (by first | rfl | simp [Region.wanted, yielded]) _ rfl _ rfl _ hsl hsc ?_) | fail)
              refine cH.mono ?_
              rintro e wh ⟨b, rfl, hbb, Wh, kh⟩
              obtain rfl : b = true := hbb.2 hT
              have sh := ss.kept kh (by simp; omega)
              have kwh : Kept [] w wh := (kws.mono (by simp)).trans kh |>.fewer (by simp; omega)
              clear cH Ws ss kws kh hbb hsc
              go_wp2_with fail
              go_roundw
              case rel => exact ⟨lo, q + 1, sq, _, _, B, by omega, by omega, rfl, rfl, rfl, rfl, Wh, by omega, by omega, by omega, sh, hT, kwh, (by omega), (by omega)⟩
              case measure => simp [Go.RowKit.intOf]; omega
            | false =>
              rw [hbq] at cb
              clear hbq
              have cS := seq_works P6
              go_wp2_with (first | (refine wpList_store_st rfl _ _ rfl _ rfl _ rfl hsl4 ht5 hW6 ?_) | fail)
              refine cS.mono ?_
              rintro e ws ⟨rfl, Ws, ks⟩
              have ss := s6.kept ks (by simp; omega)
              have kws : Kept [] w ws := (kw6.mono (by simp)).trans ks |>.fewer (by simp; omega)
              clear cS P6 ks
              have cH := holds_any Ws _ ss.len
              have hsl := ss.len
              have hsc := ss.cells
              go_wp2_with (first | (refine wpList_load_stg (by first | rfl | simp [Region.wanted, yielded]) _ rfl _ rfl _ hsl hsc ?_) | fail)
              refine cH.mono ?_
              rintro e wh ⟨b, rfl, hbb, Wh, kh⟩
              obtain rfl : b = true := hbb.2 hT
              have sh := ss.kept kh (by simp; omega)
              have kwh : Kept [] w wh := (kws.mono (by simp)).trans kh |>.fewer (by simp; omega)
              clear cH Ws ss kws kh hbb hsc
              go_wp2_with fail
              go_roundw
              case rel => exact ⟨lb, q + 1, sq, _, _, B, by omega, by omega, rfl, rfl, rfl, rfl, Wh, by omega, by omega, by omega, sh, hT, kwh, hlw, hls⟩
              case measure => simp [Go.RowKit.intOf]; omega
          · have hop2 : ¬ q < (len1 : Int) := hop
            clear hB
            have cS := seq_works P6
            go_wp2_with (first | (refine wpList_store_st rfl _ _ rfl _ rfl _ rfl hsl4 ht5 hW6 ?_) | fail)
            refine cS.mono ?_
            rintro e ws ⟨rfl, Ws, ks⟩
            have ss := s6.kept ks (by simp; omega)
            have kws : Kept [] w ws := (kw6.mono (by simp)).trans ks |>.fewer (by simp; omega)
            clear cS P6 ks
            have cH := holds_any Ws _ ss.len
            have hsl := ss.len
            have hsc := ss.cells
            go_wp2_with (first | (refine wpList_load_stg (by first | rfl | simp [Region.wanted, yielded]) _ rfl _ rfl _ hsl hsc ?_) | fail)
            refine cH.mono ?_
            rintro e wh ⟨b, rfl, hbb, Wh, kh⟩
            obtain rfl : b = true := hbb.2 hT
            have sh := ss.kept kh (by simp; omega)
            have kwh : Kept [] w wh := (kws.mono (by simp)).trans kh |>.fewer (by simp; omega)
            clear cH Ws ss kws kh hbb hsc
            go_wp2_with fail
            go_roundw
            case rel => exact ⟨lb, q + 1, sq, _, _, B, by omega, by omega, rfl, rfl, rfl, rfl, Wh, by omega, by omega, by omega, sh, hT, kwh, hlw, hls⟩
            case measure => simp [Go.RowKit.intOf]; omega
        · have hg : GoodPuts 60 ps ∨ ps = [] := by
            by_cases e : ps = []
            · exact Or.inr e
            · exact Or.inl ⟨by omega, by cases ps with | nil => exact absurd rfl e | cons a r => simp, fun x hx => ⟨(hP.bytes x hx).2.2.2.2.1, (hP.bytes x hx).2.2.2.2.2.1⟩, hP.apart⟩
          have hbase : ∀ x ∈ ps, wr.heap.size ≤ x.b := fun x hx => (hP.bytes x hx).2.2.2.1
          have hrng : ∀ x ∈ ps, 42 ≤ x.N ∧ x.N < 60 := fun x hx => ⟨(hP.bytes x hx).2.2.2.2.1, (hP.bytes x hx).2.2.2.2.2.1⟩
          have hzo : ∀ x ∈ ps, x.o = 0 := fun x hx => (hP.bytes x hx).2.2.2.2.2.2
          have hsec : ∀ x ∈ ps, Sec x.bytes ∧ 42 ≤ x.N ∧ x.N < 60 := fun x hx => ⟨(hP.bytes x hx).2.1, hrng x hx⟩
          rcases hg with hg | rfl
          · have hpne : ¬ ps.length = 0 := by have := hg.more; omega
            have cC := commit_works W3 (by omega) pk cap ps hpa hcap (by simp; omega) (fun x hx => by have := hbase x hx; simp; omega) hg (by omega)
            have hT' : Tells (afterPuts U ps) (doneOf S ps) := by
              have := tells_puts hsec ps.length (Nat.le_refl _) U S s3.len hT
              rwa [List.take_length] at this
            obtain ⟨m, hml⟩ : ∃ m, ps.length = m := ⟨_, rfl⟩
            have cD := fun W hh => done_any W S s3.len pk cap ps hh hrng (by omega) hzo
            rw [hml] at cC cD hpne
            have hmpos : (0 : Int) < (m : Int) := by omega
            rw [hml]
            go_wp2_with fail
            refine cC.mono ?_
            rintro e w4 ⟨rfl, W4, k4⟩
            have s4 := s3.kept k4 (by simp; omega)
            have kw4 : Kept [] w w4 := (kw3.mono (by simp)).trans k4 |>.fewer (by simp; omega)
            have hpa4 := hpa.kept k4 (by simp; omega) (fun x hx => by have := hbase x hx; simp; omega)
            have cD := cD w4 hpa4
            clear cC W3 s3 kw3 hP hpa hpa4 hT hsec hrng hbase hzo k4
            have hsl4 := s4.len
            have hsc4 := s4.cells
            have hslD : (doneOf S ps).length = 18 := by rw [doneOf_len]; exact hsl4
            generalize doneOf S ps = S' at cD hT' hslD
            generalize afterPuts U ps = U' at W4 hT'
            go_wp2_with (first | (refine wpList_load_st rfl _ rfl _ rfl _ hsl4 hsc4 ?_) | fail)
            refine cD.mono ?_
            rintro e w5 ⟨rfl, k5⟩
            have W5 := W4.kept k5 (by simp) (by simp) (by simp) (by simp)
            have s5 := s4.kept k5 (by simp)
            have kw5 := kw4.trans k5
            obtain ⟨W6, hW6⟩ : ∃ W6, w5.setCells sb 0 (stCells S') = W6 := ⟨_, rfl⟩
            obtain ⟨s6, k6⟩ := st_stored s5 hslD
            rw [hW6] at s6 k6
            have ht5 := s5.writes
            have P6 := W5.kept k6 (by simp; omega) (by simp; omega) (by simp; omega) (by simp; omega)
            have kw6 : Kept [] w W6 := (kw5.mono (by simp)).trans k6 |>.fewer (by simp; omega)
            clear cD W4 s4 kw4 hsc4 W5 s5 kw5 k6 hg hml
            by_cases hop : q < len1
            · obtain ⟨x1, rfl, _, hx1⟩ : ∃ x, a1 = some x ∧ len1 ≤ maxLen ∧ ∀ i, i < len1 → w.cell? (x.add i) = some (.bool (Bf i)) := hB.resolve_left (by omega)
              have cb0 := hx1 q.toNat (by omega)
              have cb : W6.cell? (x1.add q.toNat) = some (.bool (Bf q.toNat)) := (World.cell?_of_block (kw6.block _ (World.block_lt_of_cell? _ _ cb0) (by simp))).trans cb0
              clear cb0 hx1 hB
              cases hbq : Bf q.toNat with
              | true =>
                rw [hbq] at cb
                have cO := open_works P6
                go_wp2_with (first | (refine wpList_store_st rfl _ _ rfl _ rfl _ rfl hslD ht5 hW6 ?_) | fail)
                refine cO.mono ?_
                rintro e wo ⟨lo, rfl, hlo, Wo, ko⟩
                have so := s6.kept ko (by simp)
                have kwo := kw6.trans ko
                have hsl0 := s6.lt
                have hsz0 := kw6.size
                clear cO P6 ko cb hbq
                have cS := seq_works Wo
                go_wp2_with fail
                refine cS.mono ?_
                rintro e ws ⟨rfl, Ws, ks⟩
                have ss := so.kept ks (by simp; omega)
                have kws : Kept [] w ws := (kwo.mono (by simp)).trans ks |>.fewer (by simp; omega)
                clear cS Wo ks
                have cH := holds_any Ws _ ss.len
                have hsl := ss.len
                have hsc := ss.cells
                go_wp2_with (first | (refine wpList_load_stg (by first | rfl | simp [Region.wanted, yielded]) _ rfl _ rfl _ hsl hsc ?_) | fail)
                refine cH.mono ?_
                rintro e wh ⟨b, rfl, hbb, Wh, kh⟩
                obtain rfl : b = true := hbb.2 hT'
                have sh := ss.kept kh (by simp; omega)
                have kwh : Kept [] w wh := (kws.mono (by simp)).trans kh |>.fewer (by simp; omega)
                clear cH Ws ss kws kh hbb hsc
                go_wp2_with fail
                go_roundw
                case rel => exact ⟨lo, q + 1, sq + 1, _, _, B + 90, by omega, by omega, rfl, rfl, rfl, rfl, Wh, by omega, by omega, by omega, sh, hT', kwh, (by omega), (by omega)⟩
                case measure => simp [Go.RowKit.intOf]; omega
              | false =>
                rw [hbq] at cb
                clear hbq
                have cS := seq_works P6
                go_wp2_with (first | (refine wpList_store_st rfl _ _ rfl _ rfl _ rfl hslD ht5 hW6 ?_) | fail)
                refine cS.mono ?_
                rintro e ws ⟨rfl, Ws, ks⟩
                have ss := s6.kept ks (by simp; omega)
                have kws : Kept [] w ws := (kw6.mono (by simp)).trans ks |>.fewer (by simp; omega)
                clear cS P6 ks
                have cH := holds_any Ws _ ss.len
                have hsl := ss.len
                have hsc := ss.cells
                go_wp2_with (first | (refine wpList_load_stg (by first | rfl | simp [Region.wanted, yielded]) _ rfl _ rfl _ hsl hsc ?_) | fail)
                refine cH.mono ?_
                rintro e wh ⟨b, rfl, hbb, Wh, kh⟩
                obtain rfl : b = true := hbb.2 hT'
                have sh := ss.kept kh (by simp; omega)
                have kwh : Kept [] w wh := (kws.mono (by simp)).trans kh |>.fewer (by simp; omega)
                clear cH Ws ss kws kh hbb hsc
                go_wp2_with fail
                go_roundw
                case rel => exact ⟨lb, q + 1, sq + 1, _, _, B + 90, by omega, by omega, rfl, rfl, rfl, rfl, Wh, by omega, by omega, by omega, sh, hT', kwh, hlw, hls⟩
                case measure => simp [Go.RowKit.intOf]; omega
            · have hop2 : ¬ q < (len1 : Int) := hop
              clear hB
              have cS := seq_works P6
              go_wp2_with (first | (refine wpList_store_st rfl _ _ rfl _ rfl _ rfl hslD ht5 hW6 ?_) | fail)
              refine cS.mono ?_
              rintro e ws ⟨rfl, Ws, ks⟩
              have ss := s6.kept ks (by simp; omega)
              have kws : Kept [] w ws := (kw6.mono (by simp)).trans ks |>.fewer (by simp; omega)
              clear cS P6 ks
              have cH := holds_any Ws _ ss.len
              have hsl := ss.len
              have hsc := ss.cells
              go_wp2_with (first | (refine wpList_load_stg (by first | rfl | simp [Region.wanted, yielded]) _ rfl _ rfl _ hsl hsc ?_) | fail)
              refine cH.mono ?_
              rintro e wh ⟨b, rfl, hbb, Wh, kh⟩
              obtain rfl : b = true := hbb.2 hT'
              have sh := ss.kept kh (by simp; omega)
              have kwh : Kept [] w wh := (kws.mono (by simp)).trans kh |>.fewer (by simp; omega)
              clear cH Ws ss kws kh hbb hsc
              go_wp2_with fail
              go_roundw
              case rel => exact ⟨lb, q + 1, sq + 1, _, _, B + 90, by omega, by omega, rfl, rfl, rfl, rfl, Wh, by omega, by omega, by omega, sh, hT', kwh, hlw, hls⟩
              case measure => simp [Go.RowKit.intOf]; omega
          · have cC := Commit_none (w := w3) (lb := lb) cap (some ⟨pk, 0, none⟩)
            have hpz : PutsAt w3 pk [] := hpa
            clear hbase hrng hzo hsec hcap
            go_wp2_with fail
            refine cC.mono ?_
            rintro e w4 ⟨rfl, k4⟩
            have W4 := W3.kept k4 (by simp) (by simp) (by simp) (by simp)
            have s4 := s3.kept k4 (by simp)
            have kw4 := kw3.trans k4
            have hpa4 := hpz.kept k4 (by simp) (by simp)
            clear cC W3 s3 kw3 hP hpa hpz
            have hsl4 := s4.len
            have hsc4 := s4.cells
            have cD := done_any w4 S hsl4 pk cap [] hpa4 (by simp) (by simp) (by simp)
            rw [show doneOf S [] = S from rfl] at cD
            clear hpa4
            go_wp2_with (first | (refine wpList_load_st rfl _ rfl _ rfl _ hsl4 hsc4 ?_) | fail)
            refine cD.mono ?_
            rintro e w5 ⟨rfl, k5⟩
            have W5 := W4.kept k5 (by simp) (by simp) (by simp) (by simp)
            have s5 := s4.kept k5 (by simp)
            have kw5 := kw4.trans k5
            obtain ⟨W6, hW6⟩ : ∃ W6, w5.setCells sb 0 (stCells S) = W6 := ⟨_, rfl⟩
            obtain ⟨s6, k6⟩ := st_stored s5 hsl4
            rw [hW6] at s6 k6
            have ht5 := s5.writes
            have P6 := W5.kept k6 (by simp; omega) (by simp; omega) (by simp; omega) (by simp; omega)
            have kw6 : Kept [] w W6 := (kw5.mono (by simp)).trans k6 |>.fewer (by simp; omega)
            clear cD W4 s4 kw4 hsc4 W5 s5 kw5 k6
            by_cases hop : q < len1
            · obtain ⟨x1, rfl, _, hx1⟩ : ∃ x, a1 = some x ∧ len1 ≤ maxLen ∧ ∀ i, i < len1 → w.cell? (x.add i) = some (.bool (Bf i)) := hB.resolve_left (by omega)
              have cb0 := hx1 q.toNat (by omega)
              have cb : W6.cell? (x1.add q.toNat) = some (.bool (Bf q.toNat)) := (World.cell?_of_block (kw6.block _ (World.block_lt_of_cell? _ _ cb0) (by simp))).trans cb0
              clear cb0 hx1 hB
              cases hbq : Bf q.toNat with
              | true =>
                rw [hbq] at cb
                have cO := open_works P6
                go_wp2_with (first | (refine wpList_store_st rfl _ _ rfl _ rfl _ rfl hsl4 ht5 hW6 ?_) | fail)
                refine cO.mono ?_
                rintro e wo ⟨lo, rfl, hlo, Wo, ko⟩
                have so := s6.kept ko (by simp)
                have kwo := kw6.trans ko
                have hsl0 := s6.lt
                have hsz0 := kw6.size
                clear cO P6 ko cb hbq
                have cS := seq_works Wo
                go_wp2_with fail
                refine cS.mono ?_
                rintro e ws ⟨rfl, Ws, ks⟩
                have ss := so.kept ks (by simp; omega)
                have kws : Kept [] w ws := (kwo.mono (by simp)).trans ks |>.fewer (by simp; omega)
                clear cS Wo ks
                have cH := holds_any Ws _ ss.len
                have hsl := ss.len
                have hsc := ss.cells
                go_wp2_with (first | (refine wpList_load_stg (by first | rfl | simp [Region.wanted, yielded]) _ rfl _ rfl _ hsl hsc ?_) | fail)
                refine cH.mono ?_
                rintro e wh ⟨b, rfl, hbb, Wh, kh⟩
                obtain rfl : b = true := hbb.2 hT
                have sh := ss.kept kh (by simp; omega)
                have kwh : Kept [] w wh := (kws.mono (by simp)).trans kh |>.fewer (by simp; omega)
                clear cH Ws ss kws kh hbb hsc
                go_wp2_with fail
                go_roundw
                case rel => exact ⟨lo, q + 1, sq, _, _, B, by omega, by omega, rfl, rfl, rfl, rfl, Wh, by omega, by omega, by omega, sh, hT, kwh, (by omega), (by omega)⟩
                case measure => simp [Go.RowKit.intOf]; omega
              | false =>
                rw [hbq] at cb
                clear hbq
                have cS := seq_works P6
                go_wp2_with (first | (refine wpList_store_st rfl _ _ rfl _ rfl _ rfl hsl4 ht5 hW6 ?_) | fail)
                refine cS.mono ?_
                rintro e ws ⟨rfl, Ws, ks⟩
                have ss := s6.kept ks (by simp; omega)
                have kws : Kept [] w ws := (kw6.mono (by simp)).trans ks |>.fewer (by simp; omega)
                clear cS P6 ks
                have cH := holds_any Ws _ ss.len
                have hsl := ss.len
                have hsc := ss.cells
                go_wp2_with (first | (refine wpList_load_stg (by first | rfl | simp [Region.wanted, yielded]) _ rfl _ rfl _ hsl hsc ?_) | fail)
                refine cH.mono ?_
                rintro e wh ⟨b, rfl, hbb, Wh, kh⟩
                obtain rfl : b = true := hbb.2 hT
                have sh := ss.kept kh (by simp; omega)
                have kwh : Kept [] w wh := (kws.mono (by simp)).trans kh |>.fewer (by simp; omega)
                clear cH Ws ss kws kh hbb hsc
                go_wp2_with fail
                go_roundw
                case rel => exact ⟨lb, q + 1, sq, _, _, B, by omega, by omega, rfl, rfl, rfl, rfl, Wh, by omega, by omega, by omega, sh, hT, kwh, hlw, hls⟩
                case measure => simp [Go.RowKit.intOf]; omega
            · have hop2 : ¬ q < (len1 : Int) := hop
              clear hB
              have cS := seq_works P6
              go_wp2_with (first | (refine wpList_store_st rfl _ _ rfl _ rfl _ rfl hsl4 ht5 hW6 ?_) | fail)
              refine cS.mono ?_
              rintro e ws ⟨rfl, Ws, ks⟩
              have ss := s6.kept ks (by simp; omega)
              have kws : Kept [] w ws := (kw6.mono (by simp)).trans ks |>.fewer (by simp; omega)
              clear cS P6 ks
              have cH := holds_any Ws _ ss.len
              have hsl := ss.len
              have hsc := ss.cells
              go_wp2_with (first | (refine wpList_load_stg (by first | rfl | simp [Region.wanted, yielded]) _ rfl _ rfl _ hsl hsc ?_) | fail)
              refine cH.mono ?_
              rintro e wh ⟨b, rfl, hbb, Wh, kh⟩
              obtain rfl : b = true := hbb.2 hT
              have sh := ss.kept kh (by simp; omega)
              have kwh : Kept [] w wh := (kws.mono (by simp)).trans kh |>.fewer (by simp; omega)
              clear cH Ws ss kws kh hbb hsc
              go_wp2_with fail
              go_roundw
              case rel => exact ⟨lb, q + 1, sq, _, _, B, by omega, by omega, rfl, rfl, rfl, rfl, Wh, by omega, by omega, by omega, sh, hT, kwh, hlw, hls⟩
              case measure => simp [Go.RowKit.intOf]; omega
    · have hend : ∃ z, z = 0 := ⟨0, rfl⟩
      clear hT hB hG
      have hb : Below w.heap.size w wr := kw.to_below (Nat.le_refl _) (by simp)
      by_cases g1 : q < len0
      · have g2 : ¬ q < 30 := fun h => hgo ⟨g1, h⟩
        clear hgo
        go_wp2
        go_ret
        exact ⟨rfl, hb⟩
      · clear hgo
        go_wp2
        go_ret
        exact ⟨rfl, hb⟩
end Go.Proofs.Ytnckfmeidcfabaa
