/-
  PART 6 of what ProcMoves leans on: PcRun PcMade PcLaw PcKno PcSimple PcMvP CpuStH ProcRun PcLimits PcMoves.
-/
import Derived.Deep.Cut
import Derived.Deep.CutRange
import Derived.Test.YtidihdiffiffmaaGreatDoorProcMovesP5
namespace Go.Proofs.YtidihdiffiffmaaGreatDoor
open Go.RowKit
set_option maxRecDepth 8000
set_option linter.unusedSimpArgs false
set_option linter.unusedVariables false
theorem pr_one {w : World} {b1 b2 : Nat} {bv pv : Value} {bs : List ByteArray} {st : List Fr} {c : Cp} (h1 : OwnR 9 1 scl w b1 bv bs) (h2 : OwnR 102 3 frc w b2 pv st) : ∀ y ∈ prL bv (stCs c pv), y.oneCell' = true := fun y hy => by
  obtain ⟨a1, c1, e1, -⟩ := h1.slice scl_ok.len
  obtain ⟨a2, c2, e2, -⟩ := h2.slice frc_len
  rcases List.mem_cons.1 hy with rfl | hy
  · rw [e1]; rfl
  · exact st_one c pv (by rw [e2]; rfl) y hy
theorem OwnL.keepG {W W' : World} {B n L0 gA : Nat} {l l1 : List PN} {i : Nat} (h : OwnL W B n l i l1) (hf : ∀ y ∈ l1, ∀ g, (y.av.ownBlock = some g ∨ y.wv.ownBlock = some g) → g < L0) (hk : ∀ j, j ≠ gA → W'.heap[j]? = W.heap[j]?) (hg : gA < B ∨ L0 ≤ gA) (hne : gA ≠ B) : OwnL W' B n l i l1 :=
  ⟨h.ln, h.le, h.len, h.nm, h.row.keep fun j hj => hk j (fun q => by
    have e : B = j := by simpa [Value.ownBlock] using hj
    omega), ⟨fun x hx => (h.own.acl x hx).keep fun j hj => hk j (by have := ((h.own.acl x hx).lt hj).1; have := hf x hx j (.inl hj); omega), fun x hx => (h.own.wds x hx).keep fun j hj => hk j (by have := ((h.own.wds x hx).lt hj).1; have := hf x hx j (.inr hj); omega), h.own.dis, h.own.apt⟩⟩
abbrev Z18C : Array Value := #[.int .i64 0, .int .i64 0, .int .i64 0, .int .i64 0, .int .i64 0, .int .i64 0, .int .i64 0, .int .i64 0, .int .i64 0, .int .i64 0, .int .i64 0, .int .i64 0, .int .i64 0, .int .i64 0, .int .i64 0, .int .i64 0, .slice none 0 0, .bool false]
theorem Oth.blk {b B L0 g : Nat} {w W : World} {cs : List Value} (h : Oth b B L0 w W) (hg : BlkL g cs w) (hl : g < b) (hc : g < B + 1 ∨ L0 ≤ g) : BlkL g cs W := ⟨hg.1.same (h.block g hl hc), Nat.lt_of_lt_of_le hg.2 h.size⟩
theorem strsL_load (w : World) (y : Addr) (v : Value) (h : w.cell? y = some v) : (Instr.loadAt 39 (.pointer (some y))).run Tryz.prog w = .ok v w := by
  have h1 := Tryz.underlying39
  go_simp
structure S4 (b gA : Nat) (u : ByteArray) (t : Lab) (ba : Option Addr) (nb bc : Nat) (X : List Value) (bv : Value) (c : Cp) (pv : Value) (W : World) : Prop where
  a : BlkL gA (prL bv (stCs c pv)) W
  s : BlkL b (sbL u t) W
  p : BlkL (b + 1) (prL (.slice ba nb bc) X) W
section
variable {b gA : Nat} {u : ByteArray} {t : Lab} {ba : Option Addr} {nb bc : Nat} {X : List Value} {bv : Value} {c : Cp} {pv : Value} {W W' : World}
theorem S4.st (h : S4 b gA u t ba nb bc X bv c pv W) : W.rangeAt gA 1 (stCs c pv) := fun j v hv => by
  have := (h.a.1 (1 + j) v (by rw [Nat.add_comm]; exact hv)).1
  exact this
theorem S4.then (h : S4 b gA u t ba nb bc X bv c pv W) (k : Below W.heap.size W W') : S4 b gA u t ba nb bc X bv c pv W' := ⟨stab_blk _ _ _ _ h.a k, stab_blk _ _ _ _ h.s k, stab_blk _ _ _ _ h.p k⟩
theorem S4.keep {g : Nat} (h : S4 b gA u t ba nb bc X bv c pv W) (hk : ∀ j, j ≠ g → W'.heap[j]? = W.heap[j]?) (hs : W.heap.size ≤ W'.heap.size) (h3 : b + 3 ≤ g) (hg : g ≠ gA) : S4 b gA u t ba nb bc X bv c pv W' := ⟨⟨h.a.1.same (hk _ (Ne.symm hg)), Nat.lt_of_lt_of_le h.a.2 hs⟩, ⟨h.s.1.same (hk _ (by omega)), Nat.lt_of_lt_of_le h.s.2 hs⟩, ⟨h.p.1.same (hk _ (by omega)), Nat.lt_of_lt_of_le h.p.2 hs⟩⟩
theorem S4.oth {B L0 : Nat} (h : S4 b gA u t ba nb bc X bv c pv W) (k : Oth W.heap.size B L0 W W') (h3 : b + 3 ≤ B) (hg : gA < B ∨ L0 ≤ gA) : S4 b gA u t ba nb bc X bv c pv W' := ⟨k.blk h.a h.a.2 (by omega), k.blk h.s h.s.2 (.inl (by omega)), k.blk h.p h.p.2 (.inl (by omega))⟩
theorem OwnL.rowN {B n : Nat} {l l1 : List PN} (h : OwnL W B n l n l1) : RowN W (some ⟨B, 0, none⟩) l1 ∧ namesP l1 = namesP l ∧ OwnN W B (.slice (some ⟨B, 0, none⟩) n n) l1 := by
  have hrow := h.row
  rw [List.drop_eq_nil_of_le (by rw [h.ln]; exact Nat.le_refl _), List.append_nil] at hrow
  obtain ⟨a, cc, hv, -, -, hr⟩ := hrow.slice pn_len
  injection hv with e1 e2 e3
  subst e1
  refine ⟨⟨hr, fun x hx => ⟨?_, ?_⟩⟩, ?_, hrow⟩
  · obtain ⟨a1, c1, h1, -, -, h2⟩ := (h.own.acl x hx).slice gr_okT.len
    unfold PN.av at h1
    injection h1 with q1 q2 q3
    rw [q1]
    exact row_grs h2
  · obtain ⟨a1, c1, h1, -, -, h2⟩ := (h.own.wds x hx).slice wd_okC.len
    unfold PN.wv at h1
    injection h1 with q1 q2 q3
    rw [q1]
    exact row_wrds h2
  · rw [h.nm, List.take_of_length_le (by rw [h.ln]; exact Nat.le_refl _)]
theorem OwnL.pm {B n L0 mb : Nat} {bs : List ByteArray} {l l1 : List PN} (h : OwnL W B n l n l1) (hf : ∀ y ∈ l1, ∀ g, (y.av.ownBlock = some g ∨ y.wv.ownBlock = some g) → g < L0) (hBL : B < L0) (hm : MapI W mb (segV (bs.map (segQ l1 u t))) (fun k => (kn ((bs.map (segQ l1 u t)).map (·.g)) k).is)) (hL : L0 ≤ mb) : PMq W B L0 mb n u t bs l1 := ⟨h.len, h.rowN.2.2, h.own, hf, hm, hL, hBL⟩
end
theorem fine_names {l l1 : List PN} (h : FineL l) (he : namesP l1 = namesP l) : FineL l1 := by
  have hl : l1.length = l.length := by
    have := congrArg List.length he
    simpa [namesP] using this
  refine ⟨by rw [hl]; exact h.len, by rw [he]; exact h.ord, fun x hx => ?_⟩
  have h1 : x.n ∈ namesP l := by rw [← he]; exact List.mem_map.2 ⟨x, hx, rfl⟩
  obtain ⟨y, hy, e⟩ := List.mem_map.1 h1
  rw [← e]
  exact h.ok y hy
theorem boolP_load (w : World) (y : Addr) (v : Value) (h : w.cell? y = some v) : (Instr.loadAt 4 (.pointer (some y))).run Tryz.prog w = .ok v w := by
  have h1 := Tryz.underlying4
  go_simp
def RunP (bs : List ByteArray) (n : Nat) (R : Rn) (w : World) (e : Ending) (w' : World) : Prop := ∃ (l' : List PN) (B : Nat) (bv v' tv : Value), e = .returned (.tuple #[.slice (some ⟨B, 0, none⟩) n n, .agg (prL bv (stCs R.c v')).toArray, tv, .bool R.over, .int .i64 R.e]) ∧ l'.length = n ∧ w.heap.size ≤ B ∧ RowN w' (some ⟨B, 0, none⟩) l' ∧ OwnX w' (B + 1) l' ∧ namesP l' = R.l ∧ InvP R.l ∧ R.c.Ok ∧ OwnR 9 1 scl w' w.heap.size bv bs ∧ OwnR 102 3 frc w' w.heap.size v' R.c.st ∧ OwnR 2 1 wcl w' w.heap.size tv R.out ∧ Below w.heap.size w w'
set_option maxRecDepth 8000 in
set_option maxHeartbeats 8000000 in
theorem prunA_any (a : Option Addr) (cap : Nat) (l : List PN) (u : ByteArray) (t : Lab) (ba : Option Addr) (bc : Nat) (bs : List ByteArray) (c : Cp) (v : Value) (n0 : Nat) (R : Rn) (hF : FineL l) (hI : InvP (namesP l)) (hGt : GL t) (hbs : bs.length ≤ 4) (hps : ∀ p ∈ bs, p.size ≤ 1000) (hc : c.Ok) (hh : c.hl = false) (hn0 : n0 ≤ 100) (hR : runP u t bs n0 (namesP l) c = R) (w : World) (h : RowN w a l) (hRB : RowAt 1 scl w ba bs) (hv : SV v c.st w) (hV : MaxV w) :
    Calls Tryz.prog 17 #[.slice a l.length cap, .agg (sbL u t).toArray, .agg (prL (.slice ba bs.length bc) (stCs c v)).toArray, .int .i64 (n0 : Int)] w (RunP bs l.length R w) := by
  have hundP := Tryz.underlying47
  have hundT := Tryz.underlying45
  have hszP : (Tryz.prog.info? 47).map (·.size) = some 19 := by kernel_rfl
  have hszT : (Tryz.prog.info? 45).map (·.size) = some 18 := by kernel_rfl
  have kown := fun (W : World) r => pown_any a cap l hF.len hF.few W r
  have kpro := fun (W : World) r q => popp_any ba bc bs c hc.ps v (by omega) (by have := hc.st; omega) W r q
  obtain ⟨n, hn⟩ : ∃ n, l.length = n := ⟨_, rfl⟩
  obtain ⟨nb, hnb⟩ : ∃ nb, bs.length = nb := ⟨_, rfl⟩
  rw [hn] at kown ⊢
  rw [hnb] at hbs kpro ⊢
  replace hn : Aside (l.length = n) := hn
  replace hnb : Aside (bs.length = nb) := hnb
  have hXl : (stCs c v).length = 18 := st_len hc.ps
  obtain ⟨X, hX⟩ : ∃ X, stCs c v = X := ⟨_, rfl⟩
  rw [hX] at hXl kpro ⊢
  clear hX
  have hszX : (Tryz.prog.info? 47).map (·.size) = some (prL (.slice ba nb bc) X).length := by rw [hszP]; simp [hXl]
  have f0 := blkl_alloc w (sbL u t).toArray 52
  have g0 := alloc_below w (.cells (sbL u t).toArray 52)
  have f1 := blkl_alloc (w.alloc (.cells (sbL u t).toArray 52)) (prL (.slice ba nb bc) X).toArray 47
  have g1 := alloc_below (w.alloc (.cells (sbL u t).toArray 52)) (.cells (prL (.slice ba nb bc) X).toArray 47)
  have f2 := blkl_alloc ((w.alloc (.cells (sbL u t).toArray 52)).alloc (.cells (prL (.slice ba nb bc) X).toArray 47)) zPC 47
  have g2 := alloc_below ((w.alloc (.cells (sbL u t).toArray 52)).alloc (.cells (prL (.slice ba nb bc) X).toArray 47)) (.cells zPC 47)
  rw [World.size_alloc] at f1
  rw [World.size_alloc, World.size_alloc] at f2
  have hsb := stab_blk _ _ _ _ (stab_blk _ _ _ _ f0 g1) g2
  have hpr := stab_blk _ _ _ _ f1 g2
  have hrs : BlkL (w.heap.size + 2) (prL nilS (stCs zeroC nilS)) _ := f2
  have hBw := Below.then (Below.then g0 g1) g2
  have hwz : w.heap.size + 3 ≤ (((w.alloc (.cells (sbL u t).toArray 52)).alloc (.cells (prL (.slice ba nb bc) X).toArray 47)).alloc (.cells zPC 47)).heap.size := by simp
  clear f0 g0 f1 g1 f2 g2
  go_enter Tryz.func17, Tryz.ntmps17
  go_upto_region 3 with fail
  generalize ((w.alloc (.cells (sbL u t).toArray 52)).alloc (.cells (prL (.slice ba nb bc) X).toArray 47)).alloc (.cells zPC 47) = W0 at *
  have hdr : Below W0.heap.size W0 W0.drew := (Below.refl _ _).drew
  replace hsb : BlkL w.heap.size (sbL u t) W0.drew := stab_blk _ _ _ _ hsb hdr
  replace hpr : BlkL (w.heap.size + 1) (prL (.slice ba nb bc) X) W0.drew := stab_blk _ _ _ _ hpr hdr
  replace hrs : BlkL (w.heap.size + 2) (prL nilS (stCs zeroC nilS)) W0.drew := stab_blk _ _ _ _ hrs hdr
  replace hBw : Below w.heap.size w W0.drew := hBw.drew
  replace hwz : w.heap.size + 3 ≤ W0.drew.heap.size := hwz
  have hrow := h.below hBw
  clear hdr
  go_cut [13, 14] from 25 (fun s13 s14 wc => ∃ (B L0 gA : Nat) (l1 : List PN) (bv pv : Value), s13 = .slice (some ⟨B, 0, none⟩) n n ∧ s14 = .pointer (some ⟨gA, 0, none⟩) ∧ w.heap.size + 3 ≤ B ∧ B < L0 ∧ Below w.heap.size w wc ∧ BlkL w.heap.size (sbL u t) wc ∧ BlkL (w.heap.size + 1) (prL (.slice ba nb bc) X) wc ∧ BlkL (w.heap.size + 2) (prL nilS (stCs zeroC nilS)) wc ∧ OwnL wc B n l n l1 ∧ (∀ y ∈ l1, ∀ g, (y.av.ownBlock = some g ∨ y.wv.ownBlock = some g) → g < L0) ∧ OwnR 9 1 scl wc L0 bv bs ∧ OwnR 102 3 frc wc L0 pv c.st ∧ (gA < B ∨ L0 ≤ gA) ∧ w.heap.size + 3 ≤ gA ∧ bv.ownBlock ≠ some gA ∧ pv.ownBlock ≠ some gA ∧ BlkL gA (prL bv (stCs c pv)) wc ∧ L0 ≤ wc.heap.size)
  · skip
    refine wp_region_held_drew (S := (fun W => BlkL (w.heap.size + 1) (prL (.slice ba nb bc) X) W)) (by kernel_rfl) (by exact hpr) ?_
    intro hHeld
    generalize W0.drew = w0 at *
    refine tkA 0 ?_
    refine tkB 2 (y := yieldsIf_load_mid (by rfl) 47 _ rfl (w.heap.size + 1) 0 rfl (prL (.slice ba nb bc) X) _ (fun W s => s.range) hundP rfl hszX) (h := ?_)
    refine tkR (rs := [1, 4]) ?_
    refine tkC (fun K hK => ?_) ?_
    · go_simp
      go_at_call 33
      refine (kown w0 hrow).mono ?_
      rintro e w1 ⟨l1, rfl, hL, hb⟩
      replace hBw := Below.then hBw hb
      replace hsb := stab_blk _ _ _ _ hsb hb
      replace hpr := stab_blk _ _ _ _ hpr hb
      replace hrs := stab_blk _ _ _ _ hrs hb
      obtain ⟨B, hBe⟩ : ∃ B, w0.heap.size = B := ⟨_, rfl⟩
      rw [hBe] at hL ⊢
      have hBlo : w.heap.size + 3 ≤ B := by rw [← hBe]; exact hwz
      replace hwz := Nat.le_trans hwz hb.size
      obtain ⟨L0, hL0⟩ : ∃ L0, w1.heap.size = L0 := ⟨_, rfl⟩
      have hBL : B < L0 := by rw [← hL0]; exact (hL.row.lt rfl).2
      have hfew : ∀ y ∈ l1, ∀ g, (y.av.ownBlock = some g ∨ y.wv.ownBlock = some g) → g < L0 := by rw [← hL0]; exact hL.own.few
      have hloL : L0 ≤ w1.heap.size := by rw [hL0]; exact Nat.le_refl _
      clear hrow hBe hL0 hb
      refine hK.out _ _ (hpr) ?_
      clear hHeld hK
      intro hHeld
      (try simp only [Act.put, zsA, zsB, zsC])
      refine tkR (rs := [3, 4]) ?_
      refine tkC (fun K hK => ?_) ?_
      · go_simp
        go_at_call 34
        refine (kpro w1 (hRB.below scl_ok.len hBw) (hv.below hBw)).mono ?_
        rintro e w2 ⟨bv, pv, rfl, hbo, hpo, hb⟩
        have hloW := hloL
        replace hBw := Below.then hBw hb
        replace hsb := stab_blk _ _ _ _ hsb hb
        replace hpr := stab_blk _ _ _ _ hpr hb
        replace hrs := stab_blk _ _ _ _ hrs hb
        replace hwz := Nat.le_trans hwz hb.size
        replace hL := hL.below hb
        replace hloL := Nat.le_trans hloL hb.size
        replace hbo : OwnR 9 1 scl w2 L0 bv bs := hbo.lower (by omega)
        replace hpo : OwnR 102 3 frc w2 L0 pv c.st := hpo.lower (by omega)
        clear hb
        refine hK.out _ _ (hpr) ?_
        clear hHeld hK
        intro hHeld
        (try simp only [Act.put, zsA, zsB, zsC])
        refine tkR (rs := [4]) ?_
        refine tkC (fun K hK => ?_) AllReadyH.nil
        have hb := alloc_below w2 (.cells zPC 47)
        refine step_allocC (z := zPC) rfl rfl (fun _ => rfl) ?_
        (try simp only [Act.put, zsA, zsB, zsC])
        refine hK.out _ _ (stab_blk _ _ _ _ hpr hb) ?_
        clear hHeld hK
        intro hHeld
        have hne1 : bv.ownBlock ≠ some w2.heap.size := fun q => by have := (hbo.lt q).2; omega
        have hne2 : pv.ownBlock ≠ some w2.heap.size := fun q => by have := (hpo.lt q).2; omega
        have hgab : w2.heap.size < B ∨ L0 ≤ w2.heap.size := .inr hloL
        have hglo : w.heap.size + 3 ≤ w2.heap.size := hwz
        have hgz : BlkL w2.heap.size (prL nilS (stCs zeroC nilS)) (w2.alloc (.cells zPC 47)) := blkl_alloc w2 zPC 47
        have hgas : w2.heap.size < (w2.alloc (.cells zPC 47)).heap.size := hgz.2
        replace hBw := Below.then hBw hb
        replace hsb := stab_blk _ _ _ _ hsb hb
        replace hpr := stab_blk _ _ _ _ hpr hb
        replace hrs := stab_blk _ _ _ _ hrs hb
        replace hwz := Nat.le_trans hwz hb.size
        replace hL := hL.below hb
        replace hloL := Nat.le_trans hloL hb.size
        replace hbo := hbo.below hb
        replace hpo := hpo.below hb
        replace hHeld := hHeld
        generalize w2.alloc (.cells zPC 47) = w3 at *
        generalize w2.heap.size = gA at *
        clear hb
        (try simp only [Act.put, zsA, zsB, zsC])
        refine tkA 5 ?_
        refine tkR (rs := [6]) ?_
        refine tkC (fun K hK => ?_) AllReadyH.nil
        have hZl : (prL bv (stCs c pv)).length = 19 := by simp [st_len hc.ps]
        have hZo : ∀ y ∈ prL bv (stCs c pv), y.oneCell' = true := pr_one hbo hpo
        have hZs : (Tryz.prog.info? 47).map (·.size) = some (prL bv (stCs c pv)).length := by rw [hZl]; exact hszP
        obtain ⟨V9, hV9, hth9, hbh, hb9⟩ := put_any hgz (ds := prL bv (stCs c pv)) (by rw [hZl]; rfl) (by rw [hZl]; decide)
        refine step_store_rowC rfl _ _ rfl gA rfl (prL bv (stCs c pv)) rfl hth9 hZs hZo hV9 ?_
        (try simp only [Act.put, zsA, zsB, zsC])
        have hk9 : ∀ j, j ≠ gA → V9.heap[j]? = w3.heap[j]? := fun j hj => by rw [← hV9]; exact heap_setCells_other hj _ _ _
        have hs9 : w3.heap.size ≤ V9.heap.size := (hb9 0 w3 (Nat.zero_le _) (Below.refl _ _)).size
        replace hBw := hb9 _ _ (by omega) hBw
        replace hsb : BlkL w.heap.size (sbL u t) V9 := ⟨hsb.1.same (hk9 _ (by omega)), Nat.lt_of_lt_of_le hsb.2 hs9⟩
        replace hpr : BlkL (w.heap.size + 1) (prL (.slice ba nb bc) X) V9 := ⟨hpr.1.same (hk9 _ (by omega)), Nat.lt_of_lt_of_le hpr.2 hs9⟩
        replace hrs : BlkL (w.heap.size + 2) (prL nilS (stCs zeroC nilS)) V9 := ⟨hrs.1.same (hk9 _ (by omega)), Nat.lt_of_lt_of_le hrs.2 hs9⟩
        replace hloL : L0 ≤ V9.heap.size := Nat.le_trans hloL hs9
        replace hL := hL.keepG hfew hk9 hgab (by omega)
        replace hbo := hbo.keep fun j hj => hk9 j (fun q => hne1 (by rw [hj, q]))
        replace hpo := hpo.keep fun j hj => hk9 j (fun q => hne2 (by rw [hj, q]))
        clear hgz hk9 hth9 hb9 hV9 hZl hZo hZs hs9
        refine hK.out _ _ (hpr) ?_
        clear hHeld hK
        intro hHeld
        (try simp only [Act.put, zsA, zsB, zsC])
        refine wpAnyH_done (by kernel_rfl) ?_ _
        clear hHeld
        go_wp2_with fail
        go_meet
        exact ⟨B, L0, gA, l1, bv, pv, rfl, rfl, hBlo, hBL, hBw, hsb, hpr, hrs, hL, hfew, hbo, hpo, hgab, hglo, hne1, hne2, hbh, hloL⟩
      refine tkC (fun K hK => ?_) AllReadyH.nil
      have hb := alloc_below w1 (.cells zPC 47)
      refine step_allocC (z := zPC) rfl rfl (fun _ => rfl) ?_
      (try simp only [Act.put, zsA, zsB, zsC])
      refine hK.out _ _ (stab_blk _ _ _ _ hpr hb) ?_
      clear hHeld hK
      intro hHeld
      have hgab : w1.heap.size < B ∨ L0 ≤ w1.heap.size := .inr hloL
      have hglo : w.heap.size + 3 ≤ w1.heap.size := hwz
      have hgz : BlkL w1.heap.size (prL nilS (stCs zeroC nilS)) (w1.alloc (.cells zPC 47)) := blkl_alloc w1 zPC 47
      have hgas : w1.heap.size < (w1.alloc (.cells zPC 47)).heap.size := hgz.2
      replace hBw := Below.then hBw hb
      replace hsb := stab_blk _ _ _ _ hsb hb
      replace hpr := stab_blk _ _ _ _ hpr hb
      replace hrs := stab_blk _ _ _ _ hrs hb
      replace hwz := Nat.le_trans hwz hb.size
      replace hL := hL.below hb
      replace hloL := Nat.le_trans hloL hb.size
      replace hHeld := hHeld
      generalize w1.alloc (.cells zPC 47) = w2 at *
      generalize w1.heap.size = gA at *
      clear hb
      (try simp only [Act.put, zsA, zsB, zsC])
      refine tkR (rs := [3]) ?_
      refine tkC (fun K hK => ?_) AllReadyH.nil
      go_simp
      go_at_call 34
      refine (kpro w2 (hRB.below scl_ok.len hBw) (hv.below hBw)).mono ?_
      rintro e w3 ⟨bv, pv, rfl, hbo, hpo, hb⟩
      have hloW := hloL
      have hne1 : bv.ownBlock ≠ some gA := fun q => by have := (hbo.lt q).1; omega
      have hne2 : pv.ownBlock ≠ some gA := fun q => by have := (hpo.lt q).1; omega
      replace hgas : gA < w3.heap.size := Nat.lt_of_lt_of_le hgas hb.size
      replace hBw := Below.then hBw hb
      replace hsb := stab_blk _ _ _ _ hsb hb
      replace hpr := stab_blk _ _ _ _ hpr hb
      replace hrs := stab_blk _ _ _ _ hrs hb
      replace hwz := Nat.le_trans hwz hb.size
      replace hL := hL.below hb
      replace hloL := Nat.le_trans hloL hb.size
      replace hgz := stab_blk _ _ _ _ hgz hb
      replace hbo : OwnR 9 1 scl w3 L0 bv bs := hbo.lower (by omega)
      replace hpo : OwnR 102 3 frc w3 L0 pv c.st := hpo.lower (by omega)
      clear hb
      refine hK.out _ _ (hpr) ?_
      clear hHeld hK
      intro hHeld
      (try simp only [Act.put, zsA, zsB, zsC])
      refine tkA 5 ?_
      refine tkR (rs := [6]) ?_
      refine tkC (fun K hK => ?_) AllReadyH.nil
      have hZl : (prL bv (stCs c pv)).length = 19 := by simp [st_len hc.ps]
      have hZo : ∀ y ∈ prL bv (stCs c pv), y.oneCell' = true := pr_one hbo hpo
      have hZs : (Tryz.prog.info? 47).map (·.size) = some (prL bv (stCs c pv)).length := by rw [hZl]; exact hszP
      obtain ⟨V9, hV9, hth9, hbh, hb9⟩ := put_any hgz (ds := prL bv (stCs c pv)) (by rw [hZl]; rfl) (by rw [hZl]; decide)
      refine step_store_rowC rfl _ _ rfl gA rfl (prL bv (stCs c pv)) rfl hth9 hZs hZo hV9 ?_
      (try simp only [Act.put, zsA, zsB, zsC])
      have hk9 : ∀ j, j ≠ gA → V9.heap[j]? = w3.heap[j]? := fun j hj => by rw [← hV9]; exact heap_setCells_other hj _ _ _
      have hs9 : w3.heap.size ≤ V9.heap.size := (hb9 0 w3 (Nat.zero_le _) (Below.refl _ _)).size
      replace hBw := hb9 _ _ (by omega) hBw
      replace hsb : BlkL w.heap.size (sbL u t) V9 := ⟨hsb.1.same (hk9 _ (by omega)), Nat.lt_of_lt_of_le hsb.2 hs9⟩
      replace hpr : BlkL (w.heap.size + 1) (prL (.slice ba nb bc) X) V9 := ⟨hpr.1.same (hk9 _ (by omega)), Nat.lt_of_lt_of_le hpr.2 hs9⟩
      replace hrs : BlkL (w.heap.size + 2) (prL nilS (stCs zeroC nilS)) V9 := ⟨hrs.1.same (hk9 _ (by omega)), Nat.lt_of_lt_of_le hrs.2 hs9⟩
      replace hloL : L0 ≤ V9.heap.size := Nat.le_trans hloL hs9
      replace hL := hL.keepG hfew hk9 hgab (by omega)
      replace hbo := hbo.keep fun j hj => hk9 j (fun q => hne1 (by rw [hj, q]))
      replace hpo := hpo.keep fun j hj => hk9 j (fun q => hne2 (by rw [hj, q]))
      clear hgz hk9 hth9 hb9 hV9 hZl hZo hZs hs9
      refine hK.out _ _ (hpr) ?_
      clear hHeld hK
      intro hHeld
      (try simp only [Act.put, zsA, zsB, zsC])
      refine wpAnyH_done (by kernel_rfl) ?_ _
      clear hHeld
      go_wp2_with fail
      go_meet
      exact ⟨B, L0, gA, l1, bv, pv, rfl, rfl, hBlo, hBL, hBw, hsb, hpr, hrs, hL, hfew, hbo, hpo, hgab, hglo, hne1, hne2, hbh, hloL⟩
    refine tkC (fun K hK => ?_) AllReadyH.nil
    have hb := alloc_below w0 (.cells zPC 47)
    refine step_allocC (z := zPC) rfl rfl (fun _ => rfl) ?_
    (try simp only [Act.put, zsA, zsB, zsC])
    refine hK.out _ _ (stab_blk _ _ _ _ hpr hb) ?_
    clear hHeld hK
    intro hHeld
    have hglo : w.heap.size + 3 ≤ w0.heap.size := hwz
    have hgz : BlkL w0.heap.size (prL nilS (stCs zeroC nilS)) (w0.alloc (.cells zPC 47)) := blkl_alloc w0 zPC 47
    have hgas : w0.heap.size < (w0.alloc (.cells zPC 47)).heap.size := hgz.2
    replace hBw := Below.then hBw hb
    replace hsb := stab_blk _ _ _ _ hsb hb
    replace hpr := stab_blk _ _ _ _ hpr hb
    replace hrs := stab_blk _ _ _ _ hrs hb
    replace hwz := Nat.le_trans hwz hb.size
    replace hrow := hrow.below hb
    replace hHeld := hHeld
    generalize w0.alloc (.cells zPC 47) = w1 at *
    generalize w0.heap.size = gA at *
    clear hb
    (try simp only [Act.put, zsA, zsB, zsC])
    refine tkR (rs := [1]) ?_
    refine tkC (fun K hK => ?_) AllReadyH.nil
    go_simp
    go_at_call 33
    refine (kown w1 hrow).mono ?_
    rintro e w2 ⟨l1, rfl, hL, hb⟩
    replace hBw := Below.then hBw hb
    replace hsb := stab_blk _ _ _ _ hsb hb
    replace hpr := stab_blk _ _ _ _ hpr hb
    replace hrs := stab_blk _ _ _ _ hrs hb
    replace hgz := stab_blk _ _ _ _ hgz hb
    obtain ⟨B, hBe⟩ : ∃ B, w1.heap.size = B := ⟨_, rfl⟩
    rw [hBe] at hL ⊢
    have hBlo : w.heap.size + 3 ≤ B := by rw [← hBe]; exact hwz
    replace hwz := Nat.le_trans hwz hb.size
    obtain ⟨L0, hL0⟩ : ∃ L0, w2.heap.size = L0 := ⟨_, rfl⟩
    have hBL : B < L0 := by rw [← hL0]; exact (hL.row.lt rfl).2
    have hfew : ∀ y ∈ l1, ∀ g, (y.av.ownBlock = some g ∨ y.wv.ownBlock = some g) → g < L0 := by rw [← hL0]; exact hL.own.few
    have hloL : L0 ≤ w2.heap.size := by rw [hL0]; exact Nat.le_refl _
    have hgab : gA < B ∨ L0 ≤ gA := .inl (by rw [← hBe]; omega)
    replace hgas : gA < w2.heap.size := Nat.lt_of_lt_of_le hgas hb.size
    clear hrow hBe hL0 hb
    refine hK.out _ _ (hpr) ?_
    clear hHeld hK
    intro hHeld
    (try simp only [Act.put, zsA, zsB, zsC])
    refine tkR (rs := [3]) ?_
    refine tkC (fun K hK => ?_) AllReadyH.nil
    go_simp
    go_at_call 34
    refine (kpro w2 (hRB.below scl_ok.len hBw) (hv.below hBw)).mono ?_
    rintro e w3 ⟨bv, pv, rfl, hbo, hpo, hb⟩
    have hloW := hloL
    have hne1 : bv.ownBlock ≠ some gA := fun q => by have := (hbo.lt q).1; omega
    have hne2 : pv.ownBlock ≠ some gA := fun q => by have := (hpo.lt q).1; omega
    replace hgas : gA < w3.heap.size := Nat.lt_of_lt_of_le hgas hb.size
    replace hBw := Below.then hBw hb
    replace hsb := stab_blk _ _ _ _ hsb hb
    replace hpr := stab_blk _ _ _ _ hpr hb
    replace hrs := stab_blk _ _ _ _ hrs hb
    replace hwz := Nat.le_trans hwz hb.size
    replace hL := hL.below hb
    replace hloL := Nat.le_trans hloL hb.size
    replace hgz := stab_blk _ _ _ _ hgz hb
    replace hbo : OwnR 9 1 scl w3 L0 bv bs := hbo.lower (by omega)
    replace hpo : OwnR 102 3 frc w3 L0 pv c.st := hpo.lower (by omega)
    clear hb
    refine hK.out _ _ (hpr) ?_
    clear hHeld hK
    intro hHeld
    (try simp only [Act.put, zsA, zsB, zsC])
    refine tkA 5 ?_
    refine tkR (rs := [6]) ?_
    refine tkC (fun K hK => ?_) AllReadyH.nil
    have hZl : (prL bv (stCs c pv)).length = 19 := by simp [st_len hc.ps]
    have hZo : ∀ y ∈ prL bv (stCs c pv), y.oneCell' = true := pr_one hbo hpo
    have hZs : (Tryz.prog.info? 47).map (·.size) = some (prL bv (stCs c pv)).length := by rw [hZl]; exact hszP
    obtain ⟨V9, hV9, hth9, hbh, hb9⟩ := put_any hgz (ds := prL bv (stCs c pv)) (by rw [hZl]; rfl) (by rw [hZl]; decide)
    refine step_store_rowC rfl _ _ rfl gA rfl (prL bv (stCs c pv)) rfl hth9 hZs hZo hV9 ?_
    (try simp only [Act.put, zsA, zsB, zsC])
    have hk9 : ∀ j, j ≠ gA → V9.heap[j]? = w3.heap[j]? := fun j hj => by rw [← hV9]; exact heap_setCells_other hj _ _ _
    have hs9 : w3.heap.size ≤ V9.heap.size := (hb9 0 w3 (Nat.zero_le _) (Below.refl _ _)).size
    replace hBw := hb9 _ _ (by omega) hBw
    replace hsb : BlkL w.heap.size (sbL u t) V9 := ⟨hsb.1.same (hk9 _ (by omega)), Nat.lt_of_lt_of_le hsb.2 hs9⟩
    replace hpr : BlkL (w.heap.size + 1) (prL (.slice ba nb bc) X) V9 := ⟨hpr.1.same (hk9 _ (by omega)), Nat.lt_of_lt_of_le hpr.2 hs9⟩
    replace hrs : BlkL (w.heap.size + 2) (prL nilS (stCs zeroC nilS)) V9 := ⟨hrs.1.same (hk9 _ (by omega)), Nat.lt_of_lt_of_le hrs.2 hs9⟩
    replace hloL : L0 ≤ V9.heap.size := Nat.le_trans hloL hs9
    replace hL := hL.keepG hfew hk9 hgab (by omega)
    replace hbo := hbo.keep fun j hj => hk9 j (fun q => hne1 (by rw [hj, q]))
    replace hpo := hpo.keep fun j hj => hk9 j (fun q => hne2 (by rw [hj, q]))
    clear hgz hk9 hth9 hb9 hV9 hZl hZo hZs hs9
    refine hK.out _ _ (hpr) ?_
    clear hHeld hK
    intro hHeld
    (try simp only [Act.put, zsA, zsB, zsC])
    refine wpAnyH_done (by kernel_rfl) ?_ _
    clear hHeld
    go_wp2_with fail
    go_meet
    exact ⟨B, L0, gA, l1, bv, pv, rfl, rfl, hBlo, hBL, hBw, hsb, hpr, hrs, hL, hfew, hbo, hpo, hgab, hglo, hne1, hne2, hbh, hloL⟩
  case rest =>
    clear hsb hpr hrs hBw hwz hrow kown kpro h
    obtain ⟨B, L0, gA, l1, bv, pv, rfl, rfl, hBlo, hBL, hBw, hsb, hpr, hrs, hOL, hfew, hbo, hpo, hgab, hglo, hne1, hne2, hbh, hszL⟩ := hcut
    have hnm := hOL.rowN.2.1
    have hF1 := fine_names hF hnm
    have hln1 := hOL.len
    have kkn := fun (W : World) r q s v => pknown_any B n l1 u t ba bc bs hF1 hGt (by rw [hnb.out]; exact hbs) hps W r q s v
    have kst := fun (W : World) mb (p : PMq W B L0 mb n u t bs l1) s => psteps_any (bm := mb) c pv n0 R hn0 (by rw [hnb.out]; exact hbs) (by rw [hnm]; exact hI) hc hh (by rw [hnm]; exact hR) W p s
    rw [hln1, hnb.out] at kkn
    have hS4 : S4 w.heap.size gA u t ba nb bc X bv c pv wc := ⟨hbh, hsb, hpr⟩
    have hszC : (Tryz.prog.info? 45).map (·.size) = some (stCs c pv).length := by rw [st_len hc.ps]; exact hszT
    have hss : (Tryz.prog.info? 52).map (·.size) = some (sbL u t).length := by kernel_rfl
    have hundS := Tryz.underlying52
    clear hbh hsb hpr hnm hF1 hln1 hF hI hGt hps hh hR
    go_upto_region 4 with fail
    obtain ⟨W1, hW1⟩ : ∃ W1, W1 = wc := ⟨_, rfl⟩
    rw [← hW1] at hBw hrs hOL hbo hpo hS4 hszL ⊢
    clear hW1
    have hdr : Below W1.heap.size W1 W1.drew := (Below.refl _ _).drew
    replace hBw : Below w.heap.size w W1.drew := hBw.drew
    replace hrs : BlkL (w.heap.size + 2) (prL nilS (stCs zeroC nilS)) W1.drew := stab_blk _ _ _ _ hrs hdr
    replace hOL : OwnL W1.drew B n l n l1 := hOL.below hdr
    replace hbo : OwnR 9 1 scl W1.drew L0 bv bs := hbo.below hdr
    replace hpo : OwnR 102 3 frc W1.drew L0 pv c.st := hpo.below hdr
    replace hS4 : S4 w.heap.size gA u t ba nb bc X bv c pv W1.drew := hS4.then hdr
    replace hszL : L0 ≤ W1.drew.heap.size := hszL
    clear hdr
    go_cut [15, 16, 17] from 29 (fun s15 s16 s17 wd => ∃ (g15 mb : Nat) (l2 : List PN) (v2 tv : Value), s15 = .pointer (some ⟨g15, 0, none⟩) ∧ tv = s16 ∧ s17 = .int .i64 R.e ∧ Below w.heap.size w wd ∧ BlkL (w.heap.size + 2) (prL nilS (stCs zeroC nilS)) wd ∧ BlkL gA (prL bv (stCs c pv)) wd ∧ BlkL g15 (stCs R.c v2) wd ∧ PMq wd B L0 mb n u t bs l2 ∧ namesP l2 = R.l ∧ InvP R.l ∧ R.c.Ok ∧ OwnR 102 3 frc wd L0 v2 R.c.st ∧ OwnR 2 1 wcl wd (w.heap.size + 3) tv R.out ∧ OwnR 9 1 scl wd L0 bv bs ∧ R.over = (R.c.hl || (R.e != 0)) ∧ v2.ownBlock ≠ some gA ∧ tv.ownBlock ≠ some gA ∧ w.heap.size + 3 ≤ g15 ∧ g15 ≠ gA ∧ mb ≠ gA)
    · skip
      refine wp_region_held_drew (S := (fun W => S4 w.heap.size gA u t ba nb bc X bv c pv W)) (by kernel_rfl) (by exact hS4) ?_
      intro hHeld
      generalize W1.drew = w0 at *
      refine tkA 0 ?_
      refine tkB 1 (y := yieldsIf_load_mid (by rfl) 45 _ rfl gA 1 rfl (stCs c pv) _ (fun W s => s.st) hundT rfl hszC) (h := ?_)
      refine tkA 2 ?_
      refine tkB 3 (y := yieldsIf_load_mid (by rfl) 52 _ rfl w.heap.size 0 rfl (sbL u t) _ (fun W s => s.s.range) hundS rfl hss) (h := ?_)
      refine tkA 4 ?_
      refine tkB 5 (y := yields_cellI (by rfl) _ rfl ⟨w.heap.size + 1, 0, none⟩ rfl (.slice ba nb bc) (fun _ s => (s.p.1 0 _ rfl).1) strsL_load) (h := ?_)
      refine tkA 8 ?_
      refine tkR (rs := [6, 14]) ?_
      refine tkC (fun K hK => ?_) ?_
      · go_simp
        go_at_call 36
        refine (kkn w0 (hOL.rowN.1) (by omega) (hRB.below scl_ok.len hBw) (hV.below hBw)).mono ?_
        rintro e w1 ⟨mb, rfl, hmb, hmap, hb⟩
        have hmL : L0 ≤ mb := Nat.le_trans hszL hmb
        have hmA : gA < mb := Nat.lt_of_lt_of_le hS4.a.2 hmb
        replace hBw := Below.then hBw hb
        replace hS4 := hS4.then hb
        replace hrs := stab_blk _ _ _ _ hrs hb
        replace hbo := hbo.below hb
        replace hszL := Nat.le_trans hszL hb.size
        replace hpo := hpo.below hb
        replace hOL := hOL.below hb
        clear hb
        refine hK.out _ _ (hS4) ?_
        clear hHeld hK
        intro hHeld
        (try simp only [Act.put, zsA, zsB, zsC])
        refine tkA 7 ?_
        refine tkR (rs := [9, 14]) ?_
        refine tkC (fun K hK => ?_) ?_
        · go_simp
          go_at_call 35
          refine (kst w1 mb (hOL.pm hfew hBL hmap hmL) hpo).mono ?_
          rintro e w2 ⟨l2, v2, tv, rfl, hPM, hl2, hIR, hcR, hstk, hout, hov, hoth, hnew⟩
          have hsz : w.heap.size + 3 ≤ w1.heap.size := by omega
          have hnA : v2.ownBlock ≠ some gA := fun q => by have h9 := hS4.a.2; rcases hnew gA q with r | r; exact hne2 r; omega
          have hnT : tv.ownBlock ≠ some gA := fun q => by have h9 := hS4.a.2; have := (hout.lt q).1; omega
          replace hBw : Below w.heap.size w w2 := hBw.trans ⟨hoth.os, hoth.tape, hoth.output, hoth.size, fun j hj => hoth.block j (by omega) (.inl (by omega))⟩
          replace hrs := hoth.blk hrs hrs.2 (.inl (by omega))
          replace hbo := hbo.keep fun j hj => hoth.block j (hbo.lt hj).2 (.inr (hbo.lt hj).1)
          replace hS4 := hS4.oth hoth (by omega) hgab
          replace hszL := Nat.le_trans hszL hoth.size
          replace hout := hout.lower (b := w.heap.size + 3) (by omega)
          clear hOL hpo hmap hoth hnew
          refine hK.out _ _ (hS4) ?_
          clear hHeld hK
          intro hHeld
          (try simp only [Act.put, zsA, zsB, zsC])
          refine tkA 10 ?_
          refine tkA 11 ?_
          refine tkA 12 ?_
          refine tkA 13 ?_
          refine tkR (rs := [14]) ?_
          refine tkC (fun K hK => ?_) AllReadyH.nil
          have hb := alloc_below w2 (.cells Z18C 45)
          refine step_allocC (z := Z18C) rfl rfl (fun _ => rfl) ?_
          (try simp only [Act.put, zsA, zsB, zsC])
          refine hK.out _ _ (hS4.then hb) ?_
          clear hHeld hK
          intro hHeld
          have hn15 : v2.ownBlock ≠ some w2.heap.size := fun q => by have := (hstk.lt q).2; omega
          have ht15 : tv.ownBlock ≠ some w2.heap.size := fun q => by have := (hout.lt q).2; omega
          have hm15 : mb < w2.heap.size := by have := hPM.map.lt; omega
          have hb15 : bv.ownBlock ≠ some w2.heap.size := fun q => by have := (hbo.lt q).2; omega
          have hg15L : L0 ≤ w2.heap.size := hszL
          have hgA15 : w2.heap.size ≠ gA := fun q => by have := hS4.a.2; omega
          have hg3 : w.heap.size + 3 ≤ w2.heap.size := by omega
          have hg15 : BlkL w2.heap.size (stCs zeroC nilS) (w2.alloc (.cells Z18C 45)) := blkl_alloc w2 Z18C 45
          have hg15s : w2.heap.size < (w2.alloc (.cells Z18C 45)).heap.size := hg15.2
          replace hBw := Below.then hBw hb
          replace hS4 := hS4.then hb
          replace hrs := stab_blk _ _ _ _ hrs hb
          replace hbo := hbo.below hb
          replace hszL := Nat.le_trans hszL hb.size
          replace hPM := hPM.below hb
          replace hstk := hstk.below hb
          replace hout := hout.below hb
          replace hHeld := hHeld
          generalize w2.alloc (.cells Z18C 45) = w3 at *
          generalize w2.heap.size = g15 at *
          clear hb
          (try simp only [Act.put, zsA, zsB, zsC])
          refine tkR (rs := [15]) ?_
          refine tkC (fun K hK => ?_) AllReadyH.nil
          obtain ⟨sa, sc, hsv, -⟩ := hstk.slice frc_len
          have hZl : (stCs R.c v2).length = 18 := st_len hcR.ps
          have hZo : ∀ y ∈ stCs R.c v2, y.oneCell' = true := st_one R.c v2 (by rw [hsv]; rfl)
          have hZs : (Tryz.prog.info? 45).map (·.size) = some (stCs R.c v2).length := by rw [hZl]; exact hszT
          obtain ⟨V9, hV9, hth9, hgn, hb9⟩ := put_any hg15 (ds := stCs R.c v2) (by rw [hZl]; rfl) (by rw [hZl]; decide)
          refine step_store_rowC rfl _ _ rfl g15 rfl (stCs R.c v2) rfl hth9 hZs hZo hV9 ?_
          (try simp only [Act.put, zsA, zsB, zsC])
          have hk9 : ∀ j, j ≠ g15 → V9.heap[j]? = w3.heap[j]? := fun j hj => by rw [← hV9]; exact heap_setCells_other hj _ _ _
          have hs9 : w3.heap.size ≤ V9.heap.size := (hb9 0 w3 (Nat.zero_le _) (Below.refl _ _)).size
          replace hBw := hb9 _ _ (by omega) hBw
          replace hrs : BlkL (w.heap.size + 2) (prL nilS (stCs zeroC nilS)) V9 := ⟨hrs.1.same (hk9 _ (by omega)), Nat.lt_of_lt_of_le hrs.2 hs9⟩
          replace hS4 := hS4.keep hk9 hs9 hg3 hgA15
          replace hg15 := hgn
          replace hbo := hbo.keep fun j hj => hk9 j (fun q => hb15 (by rw [hj, q]))
          replace hPM := hPM.keep fun j hj => hk9 j (by rcases hj with hj | hj <;> omega)
          replace hstk := hstk.keep fun j hj => hk9 j (fun q => hn15 (by rw [hj, q]))
          replace hout := hout.keep fun j hj => hk9 j (fun q => ht15 (by rw [hj, q]))
          replace hmA : mb ≠ gA := by omega
          clear hk9 hth9 hb9 hV9 hZl hZo hZs hs9 hgn hsv
          refine hK.out _ _ (hS4) ?_
          clear hHeld hK
          intro hHeld
          (try simp only [Act.put, zsA, zsB, zsC])
          refine tkA 16 ?_
          refine tkA 17 ?_
          refine wpAnyH_done (by kernel_rfl) ?_ _
          clear hHeld
          go_wp2_with fail
          go_meet
          exact ⟨g15, mb, l2, v2, tv, rfl, rfl, rfl, hBw, hrs, hS4.a, hg15, hPM, hl2, hIR, hcR, hstk, hout, hbo, hov, hnA, hnT, hg3, hgA15, hmA⟩
        refine tkC (fun K hK => ?_) AllReadyH.nil
        have hb := alloc_below w1 (.cells Z18C 45)
        refine step_allocC (z := Z18C) rfl rfl (fun _ => rfl) ?_
        (try simp only [Act.put, zsA, zsB, zsC])
        refine hK.out _ _ (hS4.then hb) ?_
        clear hHeld hK
        intro hHeld
        have hp15 : pv.ownBlock ≠ some w1.heap.size := fun q => by have := (hpo.lt q).2; omega
        have hm15 : mb < w1.heap.size := by have := hmap.lt; omega
        have hb15 : bv.ownBlock ≠ some w1.heap.size := fun q => by have := (hbo.lt q).2; omega
        have hg15L : L0 ≤ w1.heap.size := hszL
        have hgA15 : w1.heap.size ≠ gA := fun q => by have := hS4.a.2; omega
        have hg3 : w.heap.size + 3 ≤ w1.heap.size := by omega
        have hg15 : BlkL w1.heap.size (stCs zeroC nilS) (w1.alloc (.cells Z18C 45)) := blkl_alloc w1 Z18C 45
        have hg15s : w1.heap.size < (w1.alloc (.cells Z18C 45)).heap.size := hg15.2
        replace hBw := Below.then hBw hb
        replace hS4 := hS4.then hb
        replace hrs := stab_blk _ _ _ _ hrs hb
        replace hbo := hbo.below hb
        replace hszL := Nat.le_trans hszL hb.size
        replace hpo := hpo.below hb
        replace hOL := hOL.below hb
        replace hmap := hmap.same (hb.block _ hmap.lt)
        replace hHeld := hHeld
        generalize w1.alloc (.cells Z18C 45) = w2 at *
        generalize w1.heap.size = g15 at *
        clear hb
        (try simp only [Act.put, zsA, zsB, zsC])
        refine tkR (rs := [9]) ?_
        refine tkC (fun K hK => ?_) AllReadyH.nil
        go_simp
        go_at_call 35
        refine (kst w2 mb (hOL.pm hfew hBL hmap hmL) hpo).mono ?_
        rintro e w3 ⟨l2, v2, tv, rfl, hPM, hl2, hIR, hcR, hstk, hout, hov, hoth, hnew⟩
        have hsz : w.heap.size + 3 ≤ w2.heap.size := by omega
        have hnA : v2.ownBlock ≠ some gA := fun q => by have h9 := hS4.a.2; rcases hnew gA q with r | r; exact hne2 r; omega
        have hnT : tv.ownBlock ≠ some gA := fun q => by have h9 := hS4.a.2; have := (hout.lt q).1; omega
        have hn15 : v2.ownBlock ≠ some g15 := fun q => by rcases hnew g15 q with r | r; exact hp15 r; omega
        have ht15 : tv.ownBlock ≠ some g15 := fun q => by have := (hout.lt q).1; omega
        replace hg15 := hoth.blk hg15 hg15s (.inr hg15L)
        replace hBw : Below w.heap.size w w3 := hBw.trans ⟨hoth.os, hoth.tape, hoth.output, hoth.size, fun j hj => hoth.block j (by omega) (.inl (by omega))⟩
        replace hrs := hoth.blk hrs hrs.2 (.inl (by omega))
        replace hbo := hbo.keep fun j hj => hoth.block j (hbo.lt hj).2 (.inr (hbo.lt hj).1)
        replace hS4 := hS4.oth hoth (by omega) hgab
        replace hszL := Nat.le_trans hszL hoth.size
        replace hout := hout.lower (b := w.heap.size + 3) (by omega)
        clear hOL hpo hmap hoth hnew
        refine hK.out _ _ (hS4) ?_
        clear hHeld hK
        intro hHeld
        (try simp only [Act.put, zsA, zsB, zsC])
        refine tkA 10 ?_
        refine tkA 11 ?_
        refine tkA 12 ?_
        refine tkA 13 ?_
        refine tkR (rs := [15]) ?_
        refine tkC (fun K hK => ?_) AllReadyH.nil
        obtain ⟨sa, sc, hsv, -⟩ := hstk.slice frc_len
        have hZl : (stCs R.c v2).length = 18 := st_len hcR.ps
        have hZo : ∀ y ∈ stCs R.c v2, y.oneCell' = true := st_one R.c v2 (by rw [hsv]; rfl)
        have hZs : (Tryz.prog.info? 45).map (·.size) = some (stCs R.c v2).length := by rw [hZl]; exact hszT
        obtain ⟨V9, hV9, hth9, hgn, hb9⟩ := put_any hg15 (ds := stCs R.c v2) (by rw [hZl]; rfl) (by rw [hZl]; decide)
        refine step_store_rowC rfl _ _ rfl g15 rfl (stCs R.c v2) rfl hth9 hZs hZo hV9 ?_
        (try simp only [Act.put, zsA, zsB, zsC])
        have hk9 : ∀ j, j ≠ g15 → V9.heap[j]? = w3.heap[j]? := fun j hj => by rw [← hV9]; exact heap_setCells_other hj _ _ _
        have hs9 : w3.heap.size ≤ V9.heap.size := (hb9 0 w3 (Nat.zero_le _) (Below.refl _ _)).size
        replace hBw := hb9 _ _ (by omega) hBw
        replace hrs : BlkL (w.heap.size + 2) (prL nilS (stCs zeroC nilS)) V9 := ⟨hrs.1.same (hk9 _ (by omega)), Nat.lt_of_lt_of_le hrs.2 hs9⟩
        replace hS4 := hS4.keep hk9 hs9 hg3 hgA15
        replace hg15 := hgn
        replace hbo := hbo.keep fun j hj => hk9 j (fun q => hb15 (by rw [hj, q]))
        replace hPM := hPM.keep fun j hj => hk9 j (by rcases hj with hj | hj <;> omega)
        replace hstk := hstk.keep fun j hj => hk9 j (fun q => hn15 (by rw [hj, q]))
        replace hout := hout.keep fun j hj => hk9 j (fun q => ht15 (by rw [hj, q]))
        replace hmA : mb ≠ gA := by omega
        clear hk9 hth9 hb9 hV9 hZl hZo hZs hs9 hgn hsv
        refine hK.out _ _ (hS4) ?_
        clear hHeld hK
        intro hHeld
        (try simp only [Act.put, zsA, zsB, zsC])
        refine tkA 16 ?_
        refine tkA 17 ?_
        refine wpAnyH_done (by kernel_rfl) ?_ _
        clear hHeld
        go_wp2_with fail
        go_meet
        exact ⟨g15, mb, l2, v2, tv, rfl, rfl, rfl, hBw, hrs, hS4.a, hg15, hPM, hl2, hIR, hcR, hstk, hout, hbo, hov, hnA, hnT, hg3, hgA15, hmA⟩
      refine tkC (fun K hK => ?_) AllReadyH.nil
      have hb := alloc_below w0 (.cells Z18C 45)
      refine step_allocC (z := Z18C) rfl rfl (fun _ => rfl) ?_
      (try simp only [Act.put, zsA, zsB, zsC])
      refine hK.out _ _ (hS4.then hb) ?_
      clear hHeld hK
      intro hHeld
      have hp15 : pv.ownBlock ≠ some w0.heap.size := fun q => by have := (hpo.lt q).2; omega
      have hb15 : bv.ownBlock ≠ some w0.heap.size := fun q => by have := (hbo.lt q).2; omega
      have hg15L : L0 ≤ w0.heap.size := hszL
      have hgA15 : w0.heap.size ≠ gA := fun q => by have := hS4.a.2; omega
      have hg3 : w.heap.size + 3 ≤ w0.heap.size := by omega
      have hg15 : BlkL w0.heap.size (stCs zeroC nilS) (w0.alloc (.cells Z18C 45)) := blkl_alloc w0 Z18C 45
      have hg15s : w0.heap.size < (w0.alloc (.cells Z18C 45)).heap.size := hg15.2
      replace hBw := Below.then hBw hb
      replace hS4 := hS4.then hb
      replace hrs := stab_blk _ _ _ _ hrs hb
      replace hbo := hbo.below hb
      replace hszL := Nat.le_trans hszL hb.size
      replace hpo := hpo.below hb
      replace hOL := hOL.below hb
      replace hHeld := hHeld
      generalize w0.alloc (.cells Z18C 45) = w1 at *
      generalize w0.heap.size = g15 at *
      clear hb
      (try simp only [Act.put, zsA, zsB, zsC])
      refine tkR (rs := [6]) ?_
      refine tkC (fun K hK => ?_) AllReadyH.nil
      go_simp
      go_at_call 36
      refine (kkn w1 (hOL.rowN.1) (by omega) (hRB.below scl_ok.len hBw) (hV.below hBw)).mono ?_
      rintro e w2 ⟨mb, rfl, hmb, hmap, hb⟩
      have hmL : L0 ≤ mb := Nat.le_trans hszL hmb
      have hmA : gA < mb := Nat.lt_of_lt_of_le hS4.a.2 hmb
      replace hBw := Below.then hBw hb
      replace hS4 := hS4.then hb
      replace hrs := stab_blk _ _ _ _ hrs hb
      replace hbo := hbo.below hb
      replace hszL := Nat.le_trans hszL hb.size
      replace hpo := hpo.below hb
      replace hOL := hOL.below hb
      replace hg15 := stab_blk _ _ _ _ hg15 hb
      have hm15 : g15 < mb := Nat.lt_of_lt_of_le hg15s hmb
      replace hg15s : g15 < w2.heap.size := Nat.lt_of_lt_of_le hg15s hb.size
      clear hb
      refine hK.out _ _ (hS4) ?_
      clear hHeld hK
      intro hHeld
      (try simp only [Act.put, zsA, zsB, zsC])
      refine tkA 7 ?_
      refine tkR (rs := [9]) ?_
      refine tkC (fun K hK => ?_) AllReadyH.nil
      go_simp
      go_at_call 35
      refine (kst w2 mb (hOL.pm hfew hBL hmap hmL) hpo).mono ?_
      rintro e w3 ⟨l2, v2, tv, rfl, hPM, hl2, hIR, hcR, hstk, hout, hov, hoth, hnew⟩
      have hsz : w.heap.size + 3 ≤ w2.heap.size := by omega
      have hnA : v2.ownBlock ≠ some gA := fun q => by have h9 := hS4.a.2; rcases hnew gA q with r | r; exact hne2 r; omega
      have hnT : tv.ownBlock ≠ some gA := fun q => by have h9 := hS4.a.2; have := (hout.lt q).1; omega
      have hn15 : v2.ownBlock ≠ some g15 := fun q => by rcases hnew g15 q with r | r; exact hp15 r; omega
      have ht15 : tv.ownBlock ≠ some g15 := fun q => by have := (hout.lt q).1; omega
      replace hg15 := hoth.blk hg15 hg15s (.inr hg15L)
      replace hBw : Below w.heap.size w w3 := hBw.trans ⟨hoth.os, hoth.tape, hoth.output, hoth.size, fun j hj => hoth.block j (by omega) (.inl (by omega))⟩
      replace hrs := hoth.blk hrs hrs.2 (.inl (by omega))
      replace hbo := hbo.keep fun j hj => hoth.block j (hbo.lt hj).2 (.inr (hbo.lt hj).1)
      replace hS4 := hS4.oth hoth (by omega) hgab
      replace hszL := Nat.le_trans hszL hoth.size
      replace hout := hout.lower (b := w.heap.size + 3) (by omega)
      clear hOL hpo hmap hoth hnew
      refine hK.out _ _ (hS4) ?_
      clear hHeld hK
      intro hHeld
      (try simp only [Act.put, zsA, zsB, zsC])
      refine tkA 10 ?_
      refine tkA 11 ?_
      refine tkA 12 ?_
      refine tkA 13 ?_
      refine tkR (rs := [15]) ?_
      refine tkC (fun K hK => ?_) AllReadyH.nil
      obtain ⟨sa, sc, hsv, -⟩ := hstk.slice frc_len
      have hZl : (stCs R.c v2).length = 18 := st_len hcR.ps
      have hZo : ∀ y ∈ stCs R.c v2, y.oneCell' = true := st_one R.c v2 (by rw [hsv]; rfl)
      have hZs : (Tryz.prog.info? 45).map (·.size) = some (stCs R.c v2).length := by rw [hZl]; exact hszT
      obtain ⟨V9, hV9, hth9, hgn, hb9⟩ := put_any hg15 (ds := stCs R.c v2) (by rw [hZl]; rfl) (by rw [hZl]; decide)
      refine step_store_rowC rfl _ _ rfl g15 rfl (stCs R.c v2) rfl hth9 hZs hZo hV9 ?_
      (try simp only [Act.put, zsA, zsB, zsC])
      have hk9 : ∀ j, j ≠ g15 → V9.heap[j]? = w3.heap[j]? := fun j hj => by rw [← hV9]; exact heap_setCells_other hj _ _ _
      have hs9 : w3.heap.size ≤ V9.heap.size := (hb9 0 w3 (Nat.zero_le _) (Below.refl _ _)).size
      replace hBw := hb9 _ _ (by omega) hBw
      replace hrs : BlkL (w.heap.size + 2) (prL nilS (stCs zeroC nilS)) V9 := ⟨hrs.1.same (hk9 _ (by omega)), Nat.lt_of_lt_of_le hrs.2 hs9⟩
      replace hS4 := hS4.keep hk9 hs9 hg3 hgA15
      replace hg15 := hgn
      replace hbo := hbo.keep fun j hj => hk9 j (fun q => hb15 (by rw [hj, q]))
      replace hPM := hPM.keep fun j hj => hk9 j (by rcases hj with hj | hj <;> omega)
      replace hstk := hstk.keep fun j hj => hk9 j (fun q => hn15 (by rw [hj, q]))
      replace hout := hout.keep fun j hj => hk9 j (fun q => ht15 (by rw [hj, q]))
      replace hmA : mb ≠ gA := by omega
      clear hk9 hth9 hb9 hV9 hZl hZo hZs hs9 hgn hsv
      refine hK.out _ _ (hS4) ?_
      clear hHeld hK
      intro hHeld
      (try simp only [Act.put, zsA, zsB, zsC])
      refine tkA 16 ?_
      refine tkA 17 ?_
      refine wpAnyH_done (by kernel_rfl) ?_ _
      clear hHeld
      go_wp2_with fail
      go_meet
      exact ⟨g15, mb, l2, v2, tv, rfl, rfl, rfl, hBw, hrs, hS4.a, hg15, hPM, hl2, hIR, hcR, hstk, hout, hbo, hov, hnA, hnT, hg3, hgA15, hmA⟩
    case rest =>
      clear hS4 hBw hrs hOL hbo hpo hszL kkn kst
      obtain ⟨g15, mb, l2, v2, tv, rfl, rfl, rfl, hBw, hrs, hbh, hg15, hPM, hl2, hIR, hcR, hstk, hout, hbo, hov, hnA, hnT, hg3, hgA15, hmA⟩ := hcut
      have hlY : (stCs R.c v2).length = 18 := st_len hcR.ps
      have hx17 := (hg15.1 17 _ (st_hl hcR.ps)).1
      obtain ⟨sa, sc, hsv, -⟩ := hstk.slice frc_len
      have hYo : ∀ y ∈ stCs R.c v2, y.oneCell' = true := st_one R.c v2 (by rw [hsv]; rfl)
      obtain ⟨sa2, sc2, hbv, -⟩ := hbo.slice scl_ok.len
      have hlX : (stCs c pv).length = 18 := st_len hc.ps
      obtain ⟨W4, hW4, hth4, hp4, hb4⟩ := put_mid (Z := w) hbh 1 (stCs R.c v2) (by simp [hlX, hlY]) (by simp) hBw (by omega)
      rw [show setM (prL bv (stCs c pv)) 1 (stCs R.c v2) = prL bv (stCs R.c v2) from setM_all (stCs R.c v2) (stCs c pv) [bv] (by rw [hlX, hlY])] at hp4
      have hk4 : ∀ j, j ≠ gA → W4.heap[j]? = wc.heap[j]? := fun j hj => by rw [← hW4]; exact heap_setCells_other hj _ _ _
      have hs4 : wc.heap.size ≤ W4.heap.size := by rw [← hW4]; exact (Below.cells (B := 0) (b := gA) (Nat.zero_le _) (stCs R.c v2) 1 (Below.refl 0 wc)).size
      have hrs4 : BlkL (w.heap.size + 2) (prL nilS (stCs zeroC nilS)) W4 := ⟨hrs.1.same (hk4 _ (by omega)), Nat.lt_of_lt_of_le hrs.2 hs4⟩
      have hPM4 := hPM.keep fun j hj => hk4 j (by rcases hj with hj | hj <;> omega)
      have hstk4 := hstk.keep fun j hj => hk4 j (fun q => hnA (by rw [hj, q]))
      have hout4 := hout.keep fun j hj => hk4 j (fun q => hnT (by rw [hj, q]))
      have hbo4 := hbo.keep fun j hj => hk4 j (fun q => hne1 (by rw [hj, q]))
      have hx4 : W4.drew.cell? ⟨g15, 17, none⟩ = some (.bool R.c.hl) := (World.cell?_of_block (a := ⟨g15, 17, none⟩) (hk4 g15 hgA15)).trans hx17
      have hrA : W4.drew.rangeAt gA 0 (prL bv (stCs R.c v2)) := hp4.range
      have hg15r := hg15.range
      have hsY : (Tryz.prog.info? 45).map (·.size) = some (stCs R.c v2).length := by rw [hlY]; exact hszT
      have hoP : ∀ y ∈ prL bv (stCs R.c v2), y.oneCell' = true := fun y hy => (List.mem_cons.1 hy).elim (fun q => by rw [q, hbv]; rfl) (fun q => hYo y q)
      have hsP : (Tryz.prog.info? 47).map (·.size) = some (prL bv (stCs R.c v2)).length := by rw [hszP]; simp [hlY]
      have hrs5 : BlkL (w.heap.size + 2) (prL nilS (stCs zeroC nilS)) W4.drew := stab_blk _ _ _ _ hrs4 (Below.refl _ _).drew
      obtain ⟨W5, hW5, hth5, hk5, hb5⟩ := put_any hrs5 (ds := prL bv (stCs R.c v2)) (by simp [hlY, st_len (c := zeroC) (v := nilS) rfl]) (by simp)
      have hr5 := hk5.range
      have hB5 : Below w.heap.size w W5 := hb5 _ _ (by omega) hb4.drew
      have hkk : ∀ j, j ≠ w.heap.size + 2 → W5.heap[j]? = W4.heap[j]? := fun j hj => by rw [← hW5]; exact heap_setCells_other hj _ _ _
      have hPM5 := hPM4.keep (W' := W5) fun j hj => hkk j (by have := hPM4.bm; rcases hj with hj | hj <;> omega)
      have hstk5 : OwnR 102 3 frc W5 w.heap.size v2 R.c.st := (hstk4.keep fun j hj => hkk j (by have := (hstk4.lt hj).1; omega)).lower (by omega)
      have hout5 : OwnR 2 1 wcl W5 w.heap.size tv R.out := (hout4.keep fun j hj => hkk j (by have := (hout4.lt hj).1; omega)).lower (by omega)
      have hbo5 : OwnR 9 1 scl W5 w.heap.size bv bs := (hbo4.keep fun j hj => hkk j (by have := (hbo4.lt hj).1; omega)).lower (by omega)
      have hend : RunP bs n R w (.returned (.tuple #[.slice (some ⟨B, 0, none⟩) n n, .agg (prL bv (stCs R.c v2)).toArray, tv, .bool R.over, .int .i64 R.e])) W5 := ⟨l2, B, bv, v2, tv, rfl, hPM5.ln, by omega, hPM5.rowN, hPM5.own, hl2, hIR, hcR, hbo5, hstk5, hout5, hB5⟩
      have hkA : W5.heap[gA]? = W4.heap[gA]? := hkk gA (by omega)
      have hk15 : W5.heap[g15]? = W4.heap[g15]? := hkk g15 (by omega)
      have hxA : W5.rangeAt gA 0 (prL bv (stCs R.c v2)) := fun j v hv => (World.cell?_of_block (a := ⟨gA, 0 + j, none⟩) hkA).trans (hrA j v hv)
      have hx5 : W5.cell? ⟨g15, 17, none⟩ = some (.bool R.c.hl) := (World.cell?_of_block (a := ⟨g15, 17, none⟩) hk15).trans hx4
      clear hPM hPM4 hPM5 hstk hstk4 hstk5 hout hout4 hout5 hbo hbo4 hbo5 hBw hrs hrs4 hrs5 hbh hg15 hp4 hb4 hb5 hk5 hB5 hk4 hkk hkA hk15 hx17 hl2 hIR hnA hnT
      obtain ⟨Y, hY⟩ : ∃ Y, stCs R.c v2 = Y := ⟨_, rfl⟩
      rw [hY] at hlY hYo hW4 hth4 hrA hg15r hsY hoP hsP hW5 hth5 hr5 hend hxA
      clear hY hlX hcR
      obtain ⟨E, hE⟩ : ∃ E, R.e = E := ⟨_, rfl⟩
      obtain ⟨ov, hove⟩ : ∃ o, R.over = o := ⟨_, rfl⟩
      rw [hE] at hov hend ⊢
      rw [hove] at hov hend
      clear hE hove
      go_upto_region 6 with (first | (refine wpList_load_row rfl _ rfl g15 rfl Y hg15r hundT rfl hsY ?_) | (refine wpList_store_part rfl _ _ rfl gA 1 rfl Y rfl hth4 hsY hYo hW4 ?_) | fail)
      clear hth4 hW4 hg15r
      cases hhl : R.c.hl
      · rw [hhl, Bool.false_or] at hov
        rw [hhl] at hx4 hx5
        subst hov
        have hS0 : W4.drew.rangeAt gA 0 (prL bv Y) ∧ W4.drew.cell? ⟨g15, 17, none⟩ = some (.bool false) := ⟨hrA, hx4⟩
        have hS9 : W5.rangeAt gA 0 (prL bv Y) ∧ W5.cell? ⟨g15, 17, none⟩ = some (.bool false) := ⟨hxA, hx5⟩
        refine wp_region_held_drew (S := (fun W => W.rangeAt gA 0 (prL bv Y) ∧ W.cell? ⟨g15, 17, none⟩ = some (.bool false))) (by kernel_rfl) (by first | exact hS0 | exact hS9) ?_
        intro hHeld
        (first | (refine tkA 0 ?_) | (refine tkB (v := undef) 0 (y := Or.inr ⟨by rfl, rfl⟩) (h := ?_)) | fail)
        (first | (refine tkB 1 (y := yieldsIf_load_mid (by rfl) 47 _ rfl gA 0 rfl (prL bv Y) _ (fun W s => s.1) hundP rfl hsP) (h := ?_)) | (refine tkB (v := undef) 1 (y := Or.inr ⟨by rfl, rfl⟩) (h := ?_)) | fail)
        (first | (refine tkA 2 ?_) | (refine tkB (v := undef) 2 (y := Or.inr ⟨by rfl, rfl⟩) (h := ?_)) | fail)
        (first | (refine tkA 3 ?_) | (refine tkB (v := undef) 3 (y := Or.inr ⟨by rfl, rfl⟩) (h := ?_)) | fail)
        (first | (refine tkB 4 (y := yields_cellI (by rfl) _ rfl ⟨g15, 17, none⟩ rfl (.bool false) (fun _ s => s.2) boolP_load) (h := ?_)) | (refine tkB (v := undef) 4 (y := Or.inr ⟨by rfl, rfl⟩) (h := ?_)) | fail)
        (first | (refine tkA 5 ?_) | (refine tkB (v := undef) 5 (y := Or.inr ⟨by rfl, rfl⟩) (h := ?_)) | fail)
        (first | (refine tkA 6 ?_) | (refine tkB (v := undef) 6 (y := Or.inr ⟨by rfl, rfl⟩) (h := ?_)) | fail)
        (first | (refine tkA 7 ?_) | (refine tkB (v := undef) 7 (y := Or.inr ⟨by rfl, rfl⟩) (h := ?_)) | fail)
        (first | (refine tkA 8 ?_) | (refine tkB (v := undef) 8 (y := Or.inr ⟨by rfl, rfl⟩) (h := ?_)) | fail)
        (first | (refine tkA 9 ?_) | (refine tkB (v := undef) 9 (y := Or.inr ⟨by rfl, rfl⟩) (h := ?_)) | fail)
        (first | (refine tkA 10 ?_) | (refine tkB (v := undef) 10 (y := Or.inr ⟨by rfl, rfl⟩) (h := ?_)) | fail)
        refine tkR (rs := [11]) ?_; refine tkC (fun K hK => ?_) AllReadyH.nil; refine step_store_rowC rfl _ _ rfl (w.heap.size + 2) rfl (prL bv Y) rfl hth5 hsP hoP hW5 ?_; (try simp only [Act.put, zsA, zsB, zsC]); refine hK.out _ _ (by first | exact hS0 | exact hS9) ?_; clear hHeld hK; intro hHeld; (try simp only [Act.put, zsA, zsB, zsC])
        (first | (refine tkA 12 ?_) | (refine tkB (v := undef) 12 (y := Or.inr ⟨by rfl, rfl⟩) (h := ?_)) | fail)
        (first | (refine tkA 13 ?_) | (refine tkB (v := undef) 13 (y := Or.inr ⟨by rfl, rfl⟩) (h := ?_)) | fail)
        (first | (refine tkA 14 ?_) | (refine tkB (v := undef) 14 (y := Or.inr ⟨by rfl, rfl⟩) (h := ?_)) | fail)
        refine wpAnyH_done (by kernel_rfl) ?_ _
        clear hHeld
        go_wp2_with fail
        refine bodyPost_ret (v := _) (results_run rfl _ _ (w.heap.size + 2) rfl _ _ _ _ rfl rfl rfl rfl (prL bv Y) hr5 hundP rfl hsP) rfl ?_
        exact hend
      · rw [hhl, Bool.true_or] at hov
        rw [hhl] at hx4 hx5
        subst hov
        have hS0 : W4.drew.rangeAt gA 0 (prL bv Y) ∧ W4.drew.cell? ⟨g15, 17, none⟩ = some (.bool true) := ⟨hrA, hx4⟩
        have hS9 : W5.rangeAt gA 0 (prL bv Y) ∧ W5.cell? ⟨g15, 17, none⟩ = some (.bool true) := ⟨hxA, hx5⟩
        refine wp_region_held_drew (S := (fun W => W.rangeAt gA 0 (prL bv Y) ∧ W.cell? ⟨g15, 17, none⟩ = some (.bool true))) (by kernel_rfl) (by first | exact hS0 | exact hS9) ?_
        intro hHeld
        (first | (refine tkA 0 ?_) | (refine tkB (v := undef) 0 (y := Or.inr ⟨by rfl, rfl⟩) (h := ?_)) | fail)
        (first | (refine tkB 1 (y := yieldsIf_load_mid (by rfl) 47 _ rfl gA 0 rfl (prL bv Y) _ (fun W s => s.1) hundP rfl hsP) (h := ?_)) | (refine tkB (v := undef) 1 (y := Or.inr ⟨by rfl, rfl⟩) (h := ?_)) | fail)
        (first | (refine tkA 2 ?_) | (refine tkB (v := undef) 2 (y := Or.inr ⟨by rfl, rfl⟩) (h := ?_)) | fail)
        (first | (refine tkA 3 ?_) | (refine tkB (v := undef) 3 (y := Or.inr ⟨by rfl, rfl⟩) (h := ?_)) | fail)
        (first | (refine tkB 4 (y := yields_cellI (by rfl) _ rfl ⟨g15, 17, none⟩ rfl (.bool true) (fun _ s => s.2) boolP_load) (h := ?_)) | (refine tkB (v := undef) 4 (y := Or.inr ⟨by rfl, rfl⟩) (h := ?_)) | fail)
        (first | (refine tkA 5 ?_) | (refine tkB (v := undef) 5 (y := Or.inr ⟨by rfl, rfl⟩) (h := ?_)) | fail)
        (first | (refine tkA 6 ?_) | (refine tkB (v := undef) 6 (y := Or.inr ⟨by rfl, rfl⟩) (h := ?_)) | fail)
        (first | (refine tkA 7 ?_) | (refine tkB (v := undef) 7 (y := Or.inr ⟨by rfl, rfl⟩) (h := ?_)) | fail)
        (first | (refine tkA 8 ?_) | (refine tkB (v := undef) 8 (y := Or.inr ⟨by rfl, rfl⟩) (h := ?_)) | fail)
        (first | (refine tkA 9 ?_) | (refine tkB (v := undef) 9 (y := Or.inr ⟨by rfl, rfl⟩) (h := ?_)) | fail)
        (first | (refine tkA 10 ?_) | (refine tkB (v := undef) 10 (y := Or.inr ⟨by rfl, rfl⟩) (h := ?_)) | fail)
        refine tkR (rs := [11]) ?_; refine tkC (fun K hK => ?_) AllReadyH.nil; refine step_store_rowC rfl _ _ rfl (w.heap.size + 2) rfl (prL bv Y) rfl hth5 hsP hoP hW5 ?_; (try simp only [Act.put, zsA, zsB, zsC]); refine hK.out _ _ (by first | exact hS0 | exact hS9) ?_; clear hHeld hK; intro hHeld; (try simp only [Act.put, zsA, zsB, zsC])
        (first | (refine tkA 12 ?_) | (refine tkB (v := undef) 12 (y := Or.inr ⟨by rfl, rfl⟩) (h := ?_)) | fail)
        (first | (refine tkA 13 ?_) | (refine tkB (v := undef) 13 (y := Or.inr ⟨by rfl, rfl⟩) (h := ?_)) | fail)
        (first | (refine tkA 14 ?_) | (refine tkB (v := undef) 14 (y := Or.inr ⟨by rfl, rfl⟩) (h := ?_)) | fail)
        refine wpAnyH_done (by kernel_rfl) ?_ _
        clear hHeld
        go_wp2_with fail
        refine bodyPost_ret (v := _) (results_run rfl _ _ (w.heap.size + 2) rfl _ _ _ _ rfl rfl rfl rfl (prL bv Y) hr5 hundP rfl hsP) rfl ?_
        exact hend
end Go.Proofs.YtidihdiffiffmaaGreatDoor
namespace Go.Proofs.YtidihdiffiffmaaGreatDoor
open Go.RowKit
set_option maxRecDepth 8000
set_option linter.unusedSimpArgs false
set_option linter.unusedVariables false
theorem dirS0 : dirS 0 = ⟨#[47, 108, 48]⟩ := by decide +kernel
end Go.Proofs.YtidihdiffiffmaaGreatDoor
namespace Go.Proofs.YtidihdiffiffmaaGreatDoor
open Go.RowKit
set_option maxRecDepth 8000
set_option linter.unusedSimpArgs false
set_option linter.unusedVariables false
structure PrAt (b : Nat) (bv : Value) (c : Cp) (v : Value) (W : World) : Prop where
  ps : c.ps.length = 4
  blk : BlkL b (prL bv (stCs c v)) W
theorem PrAt.seg {b : Nat} {bv : Value} {c : Cp} {v : Value} {W : World} (h : PrAt b bv c v W) : W.cell? ⟨b, 1, none⟩ = some (.int .i64 c.seg) := (h.blk.1 1 _ rfl).1
theorem PrAt.off {b : Nat} {bv : Value} {c : Cp} {v : Value} {W : World} (h : PrAt b bv c v W) : W.cell? ⟨b, 2, none⟩ = some (.int .i64 c.off) := (h.blk.1 2 _ rfl).1
theorem PrAt.ring {b : Nat} {bv : Value} {c : Cp} {v : Value} {W : World} (h : PrAt b bv c v W) : W.cell? ⟨b, 3, none⟩ = some (.int .i64 c.ring) := (h.blk.1 3 _ rfl).1
theorem PrAt.a {b : Nat} {bv : Value} {c : Cp} {v : Value} {W : World} (h : PrAt b bv c v W) : W.cell? ⟨b, 4, none⟩ = some (.int .i64 c.a) := (h.blk.1 4 _ rfl).1
theorem PrAt.stk {b : Nat} {bv : Value} {c : Cp} {v : Value} {W : World} (h : PrAt b bv c v W) : W.cell? ⟨b, 17, none⟩ = some v := (h.blk.1 17 _ (show (stCs c v)[16]? = some v from st_stk h.ps)).1
theorem PrAt.hl {b : Nat} {bv : Value} {c : Cp} {v : Value} {W : World} (h : PrAt b bv c v W) : W.cell? ⟨b, 18, none⟩ = some (.bool c.hl) := (h.blk.1 18 _ (show (stCs c v)[17]? = some (.bool c.hl) from st_hl h.ps)).1
end Go.Proofs.YtidihdiffiffmaaGreatDoor
namespace Go.Proofs.YtidihdiffiffmaaGreatDoor
open Go.RowKit
set_option maxRecDepth 8000
set_option linter.unusedSimpArgs false
set_option linter.unusedVariables false
section
variable {ops : Array Oper} {rest : List Oper} {o : Oper} {a : Act} {w W : World} {Q : Exit → Act → World → Prop} {T : TypeId}
theorem wpList_stL (hg : o.guard = none) (x z : Operand) (ho : o.op = .store T x z) (y : Addr) (hx : a.eval x = .pointer (some y)) (v : Value) (hz : a.eval z = v) (hst : (Instr.storeAt T (.pointer (some y)) v).run Tryz.prog w = .ok () (w.setCell y v)) (h : wpList Tryz.prog ops Q rest (a.put o.dst undef) (w.setCell y v)) : wpList Tryz.prog ops Q (o :: rest) a w :=
  wpList_plain hg fun _ hK => by
    unfold Oper.wp
    simp [execOp, ho, hx, hz, hst, Result.andThen]
    exact hK _ _ h
end
abbrev zSB : Array Value := #[.string ⟨#[]⟩, .int .i64 0, .int .i64 0, .int .i64 0, .int .i64 0]
theorem rlbotW_any (w : World) :
    Calls Tryz.prog 23 #[] w fun e w' => e = .returned bottomL.v ∧ Below w.heap.size w w' := by
  go_enter Tryz.func23, Tryz.ntmps23
  go_wp2
  refine bodyPost_ret (v := bottomL.v) (by simp [results, Tryz.results23, go_sem, bottomL]) rfl ⟨rfl, (Below.refl _ _).alloc (Nat.le_refl _) _⟩
theorem first_row {W0 W1 : World} {v : Value} (ho : OwnN W1 W0.heap.size v (firstP [bottomL] 1 (some ⟨W0.heap.size + 1, 0, none⟩))) (hg : GrsAt W1 (some ⟨W0.heap.size + 1, 0, none⟩) allG) : ∃ (a : Option Addr) (c : Nat) (L : List PN), v = .slice a 2 c ∧ L.length = 2 ∧ RowN W1 a L ∧ namesP L = kpL0 := by
  obtain ⟨ag, hag⟩ : ∃ ag, (some ⟨W0.heap.size + 1, 0, none⟩ : Option Addr) = ag := ⟨_, rfl⟩
  rw [hag] at ho hg
  obtain ⟨L, hL⟩ : ∃ L, firstP [bottomL] 1 ag = L := ⟨_, rfl⟩
  have hLn : namesP L = kpL0 := by rw [← hL, firstP_names]; rfl
  have hLl : L.length = 2 := by rw [← hL, firstP_len]; decide +kernel
  have hLa : ∀ x ∈ L, x.At W1 := fun x hx => by
    rw [← hL] at hx
    obtain ⟨d, hd, rfl⟩ := List.mem_map.1 hx
    have hda : d.acl = allG ∧ d.words = [] := by
      rcases first_mem hd with rfl | ⟨k, t, _, _, rfl⟩
      · exact ⟨rfl, rfl⟩
      · exact ⟨rfl, rfl⟩
    refine ⟨?_, ?_⟩
    · show GrsAt W1 ag d.acl
      rw [hda.1]
      exact hg
    · show WrdsAt W1 none d.words
      rw [hda.2]
      exact fun j q hq => by simp at hq
  rw [hL] at ho
  obtain ⟨a, c, rfl, _, _, hr⟩ := OwnR.slice pn_len ho
  exact ⟨a, c, L, by rw [hLl], hLl, ⟨hr, hLa⟩, hLn⟩
set_option maxRecDepth 20000 in
set_option maxHeartbeats 8000000 in
theorem lknown_any (w : World) (hV : MaxV w) : Calls Tryz.prog 9 #[] w fun e w' => e = .returned (.bool true) ∧ Below w.heap.size w w' := by
  have hund := Tryz.underlying36
  have hundM := Tryz.underlying52
  have hundP := Tryz.underlying47
  have hszN : (Tryz.prog.info? 36).map (·.size) = some 16 := by kernel_rfl
  have hsm : (Tryz.prog.info? 52).map (·.size) = some 5 := by kernel_rfl
  have hszP : (Tryz.prog.info? 47).map (·.size) = some 19 := by kernel_rfl
  have kb := rlbotW_any
  go_enter Tryz.func9, Tryz.ntmps9
  go_wp2_with fail
  refine (kb w).mono ?_
  rintro e W0 ⟨rfl, hB0⟩
  have hrow := row_made lab_ok.len W0 bottomL #[.int .i64 bottomL.s, .int .i64 bottomL.c, .int .i64 bottomL.i, .int .i64 bottomL.k] rfl 30
  have hb := alloc_below W0 (.cells #[.int .i64 bottomL.s, .int .i64 bottomL.c, .int .i64 bottomL.i, .int .i64 bottomL.k] 30)
  have kf := rfirstT_any (some ⟨W0.heap.size, 0, none⟩) 1 [bottomL] none none 0 0 0 0 (by decide) _ hrow
  have hB1 := Below.then hB0 hb
  obtain ⟨W1, hW1⟩ : ∃ W1, W0.alloc (.cells #[.int .i64 bottomL.s, .int .i64 bottomL.c, .int .i64 bottomL.i, .int .i64 bottomL.k] 30) = W1 := ⟨_, rfl⟩
  rw [hW1] at kf hB1
  replace kf : Calls Tryz.prog 25 #[.agg #[.slice (some ⟨W0.heap.size, 0, none⟩) 1 1, .slice none 0 0, .slice none 0 0]] W1 _ := kf
  clear hrow hb hB0
  go_wp2_with fail
  (try rw [hW1])
  refine kf.mono ?_
  rintro e W2 ⟨v, rfl, ho, hg, hb⟩
  obtain ⟨a1, c1, L1, rfl, hL1, hr1, hn1⟩ := first_row ho hg
  have hB2 := Below.then hB1 hb
  clear kf ho hg hb hB1 hW1
  have hrp := row_made (f := pgcl) pg_len1 W2 (⟨[], none, 0⟩ : PPg) #[.slice none 0 0] rfl 92
  have hb := alloc_below W2 (.cells #[.slice none 0 0] 92)
  have hB3 := Below.then hB2 hb
  have kp := pput_any 0 (by decide) a1 c1 L1 (some ⟨W2.heap.size, 0, none⟩) 1 [⟨[], none, 0⟩] none 0 [] none 0 [] (by omega) _ (hr1.below hb) hrp (fun x hx => by obtain rfl := List.mem_singleton.1 hx; exact ⟨fun j x h => by simp at h, by simp⟩) (fun j x h => by simp at h) (fun j x h => by simp at h)
  rw [dirS0, hL1, hn1] at kp
  replace kp : Calls Tryz.prog 24 #[.slice a1 2 c1, .string ⟨#[47, 108, 48]⟩, .slice (some ⟨W2.heap.size, 0, none⟩) 1 1, .slice none 0 0, .slice none 0 0] (W2.alloc (.cells #[.slice none 0 0] 92)) (PutR kpL1 (W2.alloc (.cells #[.slice none 0 0] 92))) := kp
  clear hrp hb hB2 hr1 hn1 hL1
  go_wp2_with fail
  refine kp.mono ?_
  rintro e W4 ⟨l4, a4, c4, rfl, hr4, hn4, hb⟩
  have hB4 := Below.then hB3 hb
  clear hb hB3 kp
  have hl4 : l4.length = 3 := by
    have h1 : (namesP l4).length = l4.length := by simp [namesP]
    rw [← h1, hn4]
    decide +kernel
  obtain ⟨d, hd, hdn⟩ : ∃ d, findP l4 kpS = some d ∧ d.n = kpN0 := by
    have h1 := find_names l4 kpS
    rw [hn4, kp_find] at h1
    cases h2 : findP l4 kpS with
    | none => rw [h2] at h1; cases h1
    | some d => rw [h2] at h1; exact ⟨d, rfl, (Option.some.inj h1).symm⟩
  have hdat := hr4.p d (List.mem_of_find?_eq_some hd)
  have kfd := rfindT_any a4 c4 l4 kpS (by omega) W4 hr4
  rw [hd, hl4] at kfd
  replace kfd : Calls Tryz.prog 16 #[.slice a4 3 c4, .string ⟨#[47, 108, 48, 47, 112, 48]⟩] W4 fun e w' => e = .returned (.tuple #[.agg d.cs.toArray, .bool true]) ∧ Below W4.heap.size W4 w' := kfd
  rw [hl4]
  clear hd
  go_wp2_with fail
  refine kfd.mono ?_
  rintro e W5 ⟨rfl, hb5⟩
  obtain ⟨W6, hW6, hth6, hnd, hb⟩ := put_new W5 ZNP 36 d.cs (by rw [pn_len]; rfl) (by rw [pn_len]; decide)
  have hb46 := Below.then hb5 hb
  have hszd : (Tryz.prog.info? 36).map (·.size) = some d.cs.length := by rw [pn_len]; exact hszN
  have hone := pn_one d
  have hg45 : W4.heap.size ≤ W5.heap.size := hb5.size
  go_upto_region 3 with (first | (refine wpList_store_row rfl _ _ rfl W5.heap.size rfl d.cs rfl hth6 hszd hone hW6 ?_) | fail)
  clear kfd hb hb5 hth6 hW6 hszd hone
  generalize W5.heap.size = gn at *
  have how := own_oneP wd_okC W6 (Nat.le_refl _) (0 : Int)
  have hb := alloc_below W6 (.cells (wcl 0).toArray 2)
  have hgn6 : gn < W6.heap.size := hnd.2
  have hnd7 := stab_blk _ _ _ _ hnd hb
  have hb47 := Below.then hb46 hb
  obtain ⟨W7, hW7⟩ : ∃ W7, W6.alloc (.cells (wcl 0).toArray 2) = W7 := ⟨_, rfl⟩
  have hW7' : Aside (W6.alloc (.cells #[.int .i64 0] 2) = W7) := hW7
  rw [hW7] at how hnd7 hb47
  have hq11 := (hnd7.1 11 _ rfl).1
  have hf11 := (hnd7.1 11 _ rfl).2
  have hnd8 := blk_setS hnd7 (i := 11) (by rw [pn_len]; decide) (.slice (some ⟨W6.heap.size, 0, none⟩) 1 1)
  have how8 := how.set (g := gn) (j := 11) (u := .slice (some ⟨W6.heap.size, 0, none⟩) 1 1) (fun q => by have h9 : W6.heap.size = gn := Option.some.inj q; omega)
  have hb48 := hb47.setCell (p := ⟨gn, 11, none⟩) (by show W4.heap.size ≤ gn; omega) (.slice (some ⟨W6.heap.size, 0, none⟩) 1 1)
  obtain ⟨x, hx⟩ : ∃ x : PN, x = { d with n := { d.n with words := [0] }, wa := some ⟨W6.heap.size, 0, none⟩, cw := 1 } := ⟨_, rfl⟩
  have hxn : x.n = kpN1 := by rw [hx]; show { d.n with words := [0] } = _; rw [hdn]; rfl
  obtain ⟨W8, hW8⟩ : ∃ W8, W7.setCell ⟨gn, 11, none⟩ (.slice (some ⟨W6.heap.size, 0, none⟩) 1 1) = W8 := ⟨_, rfl⟩
  rw [hW8] at hnd8 how8 hb48
  replace hnd8 : BlkL gn x.cs W8 := by rw [hx]; exact hnd8
  have hxat : x.At W8 := by
    obtain ⟨a2, c2, e2, -, -, r2⟩ := how8.slice wd_okC.len
    injection e2 with q4 q5 q6
    subst q4
    rw [hx]
    exact ⟨(hdat.below hb48).g, row_wrds r2⟩
  clear hx hdn hdat how how8 hnd hnd7 hb hb46 hb47
  have hr8 := hr4.below hb48
  have hB8 := Below.then hB4 hb48
  have hgr := hnd8.range
  have hszx : (Tryz.prog.info? 36).map (·.size) = some x.cs.length := by rw [pn_len]; exact hszN
  have kput := rputT_any a4 c4 l4 x (by omega) W8 hr8
  rw [hl4] at kput
  have hnl9 : namesP (putP l4 x) = kpL2 := by rw [put_names, hn4, hxn]; rfl
  go_upto_region 4 with (first | (refine wpList_stL rfl _ _ rfl ⟨gn, 11, none⟩ rfl (.slice (some ⟨W6.heap.size, 0, none⟩) 1 1) rfl (by rw [hW7'.out]; exact wrdsP_store _ _ _ _ hq11 hf11 rfl) ?_) | fail)
  rw [hW7'.out, hW8]
  clear hq11 hf11 hW8 hW7 hW7'
  go_wp2_with (first | (refine wpList_load_row rfl _ rfl gn rfl x.cs hgr hund rfl hszx ?_) | fail)
  refine kput.mono ?_
  rintro e W9 ⟨v9, rfl, ho9, hb⟩
  obtain ⟨l9, hl9⟩ : ∃ l9, putP l4 x = l9 := ⟨_, rfl⟩
  obtain ⟨a9, c9, hv9, -, -, -⟩ := ho9.slice pn_len
  subst hv9
  have hr9 := put_rowN ho9 hr8 hxat hb
  rw [hl9] at hr9 hnl9
  have hll9 : l9.length = 3 := by
    have h1 : (namesP l9).length = l9.length := by simp [namesP]
    rw [← h1, hnl9]
    decide +kernel
  rw [hl9, hll9]
  have hB9 := Below.then hB8 hb
  have hF9 : FineL l9 := ⟨by omega, by rw [hnl9]; exact kp_inv.tr.ord, fun y hy => kp_inv.tr.ok y.n (by rw [← hnl9]; exact List.mem_map.2 ⟨y, hy, rfl⟩)⟩
  have hI9 : InvP (namesP l9) := by rw [hnl9]; exact kp_inv
  clear kput ho9 hb hl9 hr8 hxat hgr hszx hnd8 hxn hr4 hn4 hl4 hb48 hB8 hB4
  go_wp2_with fail
  refine (kb W9).mono ?_
  rintro e W10 ⟨rfl, hb10⟩
  obtain ⟨W11, hW11, hth11, hsb, hb⟩ := put_new W10 zSB 52 (sbL kaS bottomL) rfl (by decide)
  have hb911 := Below.then hb10 hb
  have hsz11 : (Tryz.prog.info? 52).map (·.size) = some (sbL kaS bottomL).length := hsm
  have hon11 := sbL_one kaS bottomL
  go_upto_region 6 with (first | (refine wpList_store_row rfl _ _ rfl W10.heap.size rfl (sbL kaS bottomL) rfl hth11 hsz11 hon11 hW11 ?_) | fail)
  have hrs := hsb.range
  clear hth11 hW11 hb hb10 hon11
  generalize W10.heap.size = gs at *
  have hB11 := Below.then hB9 hb911
  have hrp := row_made scl_ok.len W11 kpS #[.string kpS] rfl 9
  have hb := alloc_below W11 (.cells #[.string kpS] 9)
  have hb912 := Below.then hb911 hb
  have hB12 := Below.then hB11 hb
  have km := pmake_any a9 c9 l9 kaS bottomL (some ⟨W11.heap.size, 0, none⟩) 1 [kpS] hF9 bottom_GL (by decide) (fun p hp => by obtain rfl := List.mem_singleton.1 hp; decide) _ (hr9.below hb912) hrp (hV.below hB12)
  rw [hnl9, kp_make, hll9] at km
  replace km : Calls Tryz.prog 12 #[.slice a9 3 c9, .agg (sbL kaS bottomL).toArray, .slice (some ⟨W11.heap.size, 0, none⟩) 1 1] (W11.alloc (.cells #[.string kpS] 9)) _ := km
  clear hrp
  go_wp2_with (first | (refine wpList_load_row rfl _ rfl gs rfl (sbL kaS bottomL) hrs hundM rfl hsz11 ?_) | fail)
  refine km.mono ?_
  rintro e W13 ⟨hb13, -, h0⟩
  obtain ⟨bv, rfl, hob⟩ := h0 rfl
  clear km h0
  obtain ⟨ba, bc, rfl, -, -, hrb⟩ := hob.slice scl_ok.len
  obtain ⟨W14, hW14, hth14, hpr, hb14⟩ := put_new W13 zPC 47 (prL (.slice ba 1 bc) (stCs newC nilS)) rfl (by simp)
  have hb1314 := Below.then hb13 hb14
  have hb914 := Below.then hb912 hb1314
  have hB14 := Below.then hB12 hb1314
  have hsz14 : (Tryz.prog.info? 47).map (·.size) = some (prL (.slice ba 1 bc) (stCs newC nilS)).length := hszP
  have hon14 : ∀ x ∈ prL (.slice ba 1 bc) (stCs newC nilS), x.oneCell' = true := fun x hx => (List.mem_cons.1 hx).elim (fun q => by rw [q]; rfl) (fun q => st_one newC nilS rfl x q)
  have hsb14 := stab_blk _ _ _ _ hsb (Below.then hb hb1314)
  have hrb14 := hrb.below scl_ok.len hb14
  have kr := prunA_any a9 c9 l9 kaS bottomL ba bc [kpS] newC nilS 5 ⟨kpL2, kpC, [], true, 0⟩ hF9 hI9 bottom_GL (by decide) (fun p hp => by obtain rfl := List.mem_singleton.1 hp; decide) newC_ok rfl (by decide) (by rw [hnl9]; exact kp_run) W14 (hr9.below hb914) hrb14 (SV.nil _) (hV.below hB14)
  rw [hll9] at kr
  obtain ⟨X, hX⟩ : ∃ X, prL (.slice ba 1 bc) (stCs newC nilS) = X := ⟨_, rfl⟩
  replace kr : Calls Tryz.prog 17 #[.slice a9 3 c9, .agg (sbL kaS bottomL).toArray, .agg X.toArray, .int .i64 5] W14 (RunP [kpS] 3 ⟨kpL2, kpC, [], true, 0⟩ W14) := by rw [← hX]; exact kr
  have hXe : Aside (Value.agg (prL (.slice ba 1 bc) (stCs newC nilS)).toArray = .agg X.toArray) := by show _ = _; rw [hX]
  rw [hX] at hW14 hth14 hpr hsz14 hon14
  go_upto_region 7 with (first | (refine wpList_store_row rfl _ _ rfl W13.heap.size rfl X hXe.out hth14 hsz14 hon14 hW14 ?_) | (refine wpList_store_row rfl _ _ rfl W13.heap.size rfl X rfl hth14 hsz14 hon14 hW14 ?_) | fail)
  have hrs14 := hsb14.range
  have hrp14 := hpr.range
  clear hXe hX hth14 hW14 hon14 hpr hsb14 hrb14 hrb hob hsb hb hb912 hb911 hb13 hb14 hb1314 hB12 hB11 hB9 hrs hr9 hF9 hI9 hnl9 hb914
  go_wp2_with (first | (refine wpList_load_row rfl _ rfl gs rfl (sbL kaS bottomL) hrs14 hundM rfl hsz11 ?_) | (refine wpList_load_row rfl _ rfl W13.heap.size rfl X hrp14 hundP rfl hsz14 ?_) | fail)
  refine kr.mono ?_
  rintro e W15 ⟨l15, B15, bv15, v15, tv, rfl, -, -, -, -, -, -, -, hob15, hov15, hot, hb15⟩
  obtain ⟨ta, tc, rfl, -, -, -⟩ := hot.slice wd_okC.len
  obtain ⟨ba2, bc2, rfl, -, -, -⟩ := hob15.slice scl_ok.len
  have hv15 := (SV.own hov15).one
  have h4C : (prL (.slice ba2 1 bc2) (stCs kpC v15)).length = 19 := by
    show (stCs kpC v15).length + 1 = 19
    rw [st_len (by decide +kernel : kpC.ps.length = 4)]
  obtain ⟨W16, hW16, hth16, hp16, hb16⟩ := put_new W15 zPC 47 (prL (.slice ba2 1 bc2) (stCs kpC v15)) (by rw [h4C]; rfl) (by simp)
  have hsz16 : (Tryz.prog.info? 47).map (·.size) = some (prL (.slice ba2 1 bc2) (stCs kpC v15)).length := by rw [h4C]; exact hszP
  have hon16 : ∀ x ∈ prL (.slice ba2 1 bc2) (stCs kpC v15), x.oneCell' = true := fun x hx => (List.mem_cons.1 hx).elim (fun q => by rw [q]; rfl) (fun q => st_one kpC v15 hv15 x q)
  have hfin := Below.then hB14 (Below.then hb15 hb16)
  obtain ⟨Y, hY⟩ : ∃ Y, prL (.slice ba2 1 bc2) (stCs kpC v15) = Y := ⟨_, rfl⟩
  have hYe : Aside (Value.agg (prL (.slice ba2 1 bc2) (stCs kpC v15)).toArray = .agg Y.toArray) := by show _ = _; rw [hY]
  rw [hY] at hW16 hth16 hsz16 hon16
  clear h4C kr hob15 hov15 hot hb15 hb16 hp16 hB14 hY
  go_wp2_with (first | (refine wpList_store_row rfl _ _ rfl W15.heap.size rfl Y hYe.out hth16 hsz16 hon16 hW16 ?_) | (refine wpList_store_row rfl _ _ rfl W15.heap.size rfl Y rfl hth16 hsz16 hon16 hW16 ?_) | fail)
  go_ret
  exact ⟨rfl, hfin⟩
end Go.Proofs.YtidihdiffiffmaaGreatDoor
namespace Go.Proofs.YtidihdiffiffmaaGreatDoor
open Go.RowKit
set_option maxRecDepth 8000
set_option linter.unusedSimpArgs false
set_option linter.unusedVariables false
def simpP : ByteArray := ⟨#[47, 112]⟩
def simpD : ByteArray := ⟨#[47, 100]⟩
def simp1 (is : List Ins) : List Nod := putN kpL0 (segX simpP bottomL 7 ⟨4, 4, 4, 0⟩ (is.map insW))
def simp2 (d : List Int) (m : Int) : Nod := { segX simpD bottomL m ⟨4, 4, 4, 0⟩ d with acl := if 0 < m then [⟨starS, m⟩] else [] }
def simpN (is : List Ins) (d : List Int) (m : Int) : List Nod := putN (simp1 is) (simp2 d m)
set_option maxRecDepth 20000 in
set_option maxHeartbeats 8000000 in
theorem psimple_any (ia : Option Addr) (ic : Nat) (is : List Ins) (hi : is.length ≤ 100) (da : Option Addr) (dc : Nat) (d : List Int) (m : Int) (w : World) (hI : RowAt 3 ins3 w ia is) (hD : RowAt 1 wcl w da d) :
    Calls Tryz.prog 22 #[.slice ia is.length ic, .slice da d.length dc, .int .i64 m] w (PutR (simpN is d m) w) := by
  have hundN := Tryz.underlying36
  have hundR := Tryz.underlying33
  have hundI := Tryz.underlying80
  have hszI : (Tryz.prog.info? 80).map (·.size) = some 3 := by kernel_rfl
  have hszN : (Tryz.prog.info? 36).map (·.size) = some 16 := by kernel_rfl
  have hsr : (Tryz.prog.info? 33).map (·.size) = some (rgcl ⟨4, 4, 4, 0⟩).length := by kernel_rfl
  have kb := rlbotW_any
  obtain ⟨n, hn⟩ : ∃ n, is.length = n := ⟨_, rfl⟩
  obtain ⟨nd, hnd⟩ : ∃ n, d.length = n := ⟨_, rfl⟩
  rw [hn] at hi ⊢
  rw [hnd]
  replace hn : Aside (is.length = n) := hn
  replace hnd : Aside (d.length = nd) := hnd
  go_enter Tryz.func22, Tryz.ntmps22
  go_wp2_with fail
  refine (kb w).mono ?_
  rintro e W0 ⟨rfl, hB0⟩
  have hrow := row_made lab_ok.len W0 bottomL #[.int .i64 bottomL.s, .int .i64 bottomL.c, .int .i64 bottomL.i, .int .i64 bottomL.k] rfl 30
  have hb := alloc_below W0 (.cells #[.int .i64 bottomL.s, .int .i64 bottomL.c, .int .i64 bottomL.i, .int .i64 bottomL.k] 30)
  have kf := rfirstT_any (some ⟨W0.heap.size, 0, none⟩) 1 [bottomL] none none 0 0 0 0 (by decide) _ hrow
  have hB1 := Below.then hB0 hb
  obtain ⟨W1, hW1⟩ : ∃ W1, W0.alloc (.cells #[.int .i64 bottomL.s, .int .i64 bottomL.c, .int .i64 bottomL.i, .int .i64 bottomL.k] 30) = W1 := ⟨_, rfl⟩
  rw [hW1] at kf hB1
  replace kf : Calls Tryz.prog 25 #[.agg #[.slice (some ⟨W0.heap.size, 0, none⟩) 1 1, .slice none 0 0, .slice none 0 0]] W1 _ := kf
  clear hrow hb hB0
  go_wp2_with fail
  (try rw [hW1])
  refine kf.mono ?_
  rintro e W2 ⟨v, rfl, ho, hg, hb⟩
  obtain ⟨a1, c1, L1, rfl, hL1, hr1, hn1⟩ := first_row ho hg
  replace hL1 : Aside (L1.length = 2) := hL1
  have hB2 := Below.then hB1 hb
  clear kf ho hg hb hB1 hW1
  go_wp2_with fail
  go_loopw [8, 9] (fun t8 t9 wr => ∃ (k : Nat) (v : Value), k ≤ n ∧ t9 = .int .i64 (k : Int) ∧ v = t8 ∧ OwnR 2 1 wcl wr W2.heap.size v ((is.take k).map insW) ∧ Below W2.heap.size W2 wr) (fun _ t9 _ => n - (Go.RowKit.intOf t9).toNat)
  case atStart => exact ⟨0, _, by omega, rfl, rfl, OwnR.nil _ _ _ _ _, Below.refl _ _⟩
  case round =>
  obtain ⟨k, v, hk, rfl, rfl, ho, hB⟩ := hrel
  by_cases hkn : k < n
  · obtain ⟨i, hik⟩ : ∃ i, is[k]? = some i := ⟨_, List.getElem?_eq_getElem (by rw [hn.out]; exact hkn)⟩
    have hrow := hI.below in_okW.len (Below.then hB2 hB)
    obtain ⟨y, rfl, -⟩ := hI k i hik
    have hci := hrow.at in_okW.len hik
    have i1 : (k : Int) < (n : Int) := by omega
    have ke := riEnc_any i wr
    have hszX : (Tryz.prog.info? 80).map (·.size) = some (ins3 i).length := hszI
    clear hrow
    go_upto_region 6 with fail
    go_wp2_with (first | (refine wpList_load_at rfl _ rfl (y.add (k * 3)) rfl (ins3 i) hci hundI rfl hszX ?_) | fail)
    refine ke.mono ?_
    rintro e W5 ⟨rfl, hb5⟩
    have ho5 := ho.below hb5
    have hz5 : W2.heap.size ≤ W5.heap.size := Nat.le_trans hB.size hb5.size
    obtain ⟨v6, W6, hap, ho6, hgr⟩ := OwnR.push wd_okC ho5 hz5 (insW i) (wcl (insW i)).toArray rfl 2 (by rw [List.length_map, List.length_take]; omega)
    have hap2 := @appW _ _ _ _ _ _ (.tmp 32) (.tmp 34) (show (Builtin.append_ #[34, 34] 34 #[v, .slice (some ⟨W5.heap.size, 0, none⟩) 1 1]).run Tryz.prog (W5.alloc (.cells #[.int .i64 (insW i)] 2)) = .ok v6 W6 from hap)
    have htk : (is.take k).map insW ++ [insW i] = (is.take (k + 1)).map insW := by
      rw [List.take_add_one, hik, List.map_append]
      rfl
    rw [htk] at ho6
    have hb6 := ho5.grew_below hz5 hgr
    have hB6 := (Below.then hB hb5).trans hb6
    clear ke hci ho hB ho5 hap hgr hb6 htk hb5
    go_wp2_with (first | (refine hap2 rfl rfl rfl rfl rfl ?_) | fail)
    exact ⟨⟨k + 1, v6, by omega, by simp, rfl, ho6, hB6⟩, by simp [Go.RowKit.intOf]; omega⟩
  · have hfull : (is.take k).map insW = is.map insW := by rw [List.take_of_length_le (by rw [hn.out]; omega)]
    rw [hfull] at ho
    clear hfull
    obtain ⟨ws, hws⟩ : ∃ ws, is.map insW = ws := ⟨_, rfl⟩
    rw [hws] at ho
    replace hws : Aside (is.map insW = ws) := hws
    have i1 : ¬ (k : Int) < (n : Int) := by omega
    obtain ⟨W5, hW5, hth5, hS, hb⟩ := put_new wr #[.int .i64 0, .int .i64 0, .int .i64 0, .int .i64 0] 33 (rgcl ⟨4, 4, 4, 0⟩) rfl (by decide)
    have hrgo := rg_one ⟨4, 4, 4, 0⟩
    have how := ho.below hb
    obtain ⟨va, vc, hv, -, -, -⟩ := how.slice wd_okC.len
    subst hv
    have hb25 := Below.then hB hb
    have hrL := hr1.below hb25
    have hB5 := Below.then hB2 hb25
    go_upto_region 9 with (first | (refine wpList_store_row rfl _ _ rfl wr.heap.size rfl (rgcl ⟨4, 4, 4, 0⟩) rfl hth5 hsr hrgo hW5 ?_) | fail)
    generalize wr.heap.size = gr at *
    clear hb hth5 hW5 hrgo ho hr1 hB hb25
    have hBw : Below W5.heap.size W5 W5.drew := (Below.refl _ _).drew
    replace hS := stab_blk _ _ _ _ hS hBw
    simp only [Act.put]
    go_cut [7] from 37 to 44 (fun s7 wc => ∃ (a : Option Addr) (c : Nat) (l : List PN), s7 = .slice a l.length c ∧ RowN wc a l ∧ namesP l = simp1 is ∧ BlkL gr (rgcl ⟨4, 4, 4, 0⟩) wc ∧ Below w.heap.size w wc)
    · skip
      refine wp_region_held_drew (S := (fun W => BlkL gr ([.int .i64 4, .int .i64 4, .int .i64 4, .int .i64 0] : List Value) W)) (by kernel_rfl) (by exact hS) ?_
      intro hHeld
      generalize W5.drew = w0 at *
      refine tkA 0 ?_
      refine tkA 2 ?_
      refine tkB 4 (y := yields_row (by rfl) _ rfl gr rfl ([.int .i64 4, .int .i64 4, .int .i64 4, .int .i64 0] : List Value) (fun _ s => BlkL.range s) hundR rfl hsr) (h := ?_)
      refine tkA 5 ?_
      refine tkR (rs := [1, 3]) ?_
      refine tkC (fun K hK => ?_) ?_
      · go_simp
        refine (kb w0).mono ?_
        rintro e w1 ⟨rfl, hb⟩
        replace hS := stab_blk _ _ _ _ hS hb
        replace hBw := Below.then hBw hb
        clear hb
        refine hK.out _ _ (hS) ?_
        clear hHeld hK
        intro hHeld
        (try simp only [Act.put, zsA, zsB, zsC])
        refine tkR (rs := [3]) ?_
        refine tkC (fun K hK => ?_) AllReadyH.nil
        have hb := alloc_below w1 (.cells (gcl ⟨starS, 7⟩).toArray 119)
        refine step_build1 gr_okT (by decide) rfl _ rfl (gcl ⟨starS, 7⟩) rfl rfl ?_
        (try simp only [Act.put, zsA, zsB, zsC])
        refine hK.out _ _ (stab_blk _ _ _ _ hS hb) ?_
        clear hHeld hK
        intro hHeld
        have hgr : OwnR 119 2 gcl (w1.alloc (.cells (gcl ⟨starS, 7⟩).toArray 119)) w1.heap.size (.slice (some ⟨w1.heap.size, 0, none⟩) 1 1) [⟨starS, 7⟩] := own_oneP gr_okT w1 (Nat.le_refl _) ⟨starS, 7⟩
        replace hS := stab_blk _ _ _ _ hS hb
        replace hBw := Below.then hBw hb
        generalize w1.alloc (.cells (gcl ⟨starS, 7⟩).toArray 119) = w2 at *
        generalize w1.heap.size = gA at *
        clear hb
        (try simp only [Act.put, zsA, zsB, zsC])
        refine tkA 6 ?_
        refine tkR (rs := [7]) ?_
        refine tkC (fun K hK => ?_) AllReadyH.nil
        go_simp
        obtain ⟨x0, hx0⟩ : ∃ x0 : PN, x0 = ⟨segX simpP bottomL 7 ⟨4, 4, 4, 0⟩ ws, some ⟨gA, 0, none⟩, 1, va, vc⟩ := ⟨_, rfl⟩
        have kp := rputT_any a1 c1 L1 x0 (by rw [hL1.out]; decide) w2 (hrL.below hBw)
        have how9 := how.below hBw
        have hxa : x0.At w2 := by rw [hx0]; exact own_at (B := 0) (hgr.lower (Nat.zero_le _)) (how9.lower (Nat.zero_le _))
        rw [hL1.out] at kp
        have hx0c : x0.cs = nclT (segX simpP bottomL 7 ⟨4, 4, 4, 0⟩ ws) (some ⟨gA, 0, none⟩) 1 va vc := by rw [hx0]; rfl
        rw [hx0c] at kp
        refine kp.mono ?_
        rintro e w3 ⟨v9, rfl, ho9, hb⟩
        obtain ⟨a9, c9, hv9, -, -, -⟩ := ho9.slice pn_len
        subst hv9
        have hr9 := put_rowN ho9 (hrL.below hBw) hxa hb
        have hn9 : namesP (putP L1 x0) = simp1 is := by rw [put_names, hn1, hx0]; unfold simp1; rw [hws.out]
        replace hS := stab_blk _ _ _ _ hS hb
        replace hBw := Below.then hBw hb
        clear hb ho9 hxa how9 kp hx0 hx0c hgr
        refine hK.out _ _ (hS) ?_
        clear hHeld hK
        intro hHeld
        (try simp only [Act.put, zsA, zsB, zsC])
        refine tkA 8 ?_
        refine wpAnyH_done (by kernel_rfl) ?_ _
        clear hHeld
        go_wp2_with fail
        go_meet
        exact ⟨a9, c9, putP L1 x0, rfl, hr9, hn9, hS, Below.then hB5 hBw⟩
      refine tkC (fun K hK => ?_) AllReadyH.nil
      have hb := alloc_below w0 (.cells (gcl ⟨starS, 7⟩).toArray 119)
      refine step_build1 gr_okT (by decide) rfl _ rfl (gcl ⟨starS, 7⟩) rfl rfl ?_
      (try simp only [Act.put, zsA, zsB, zsC])
      refine hK.out _ _ (stab_blk _ _ _ _ hS hb) ?_
      clear hHeld hK
      intro hHeld
      have hgr : OwnR 119 2 gcl (w0.alloc (.cells (gcl ⟨starS, 7⟩).toArray 119)) w0.heap.size (.slice (some ⟨w0.heap.size, 0, none⟩) 1 1) [⟨starS, 7⟩] := own_oneP gr_okT w0 (Nat.le_refl _) ⟨starS, 7⟩
      replace hS := stab_blk _ _ _ _ hS hb
      replace hBw := Below.then hBw hb
      generalize w0.alloc (.cells (gcl ⟨starS, 7⟩).toArray 119) = w1 at *
      generalize w0.heap.size = gA at *
      clear hb
      (try simp only [Act.put, zsA, zsB, zsC])
      refine tkR (rs := [1]) ?_
      refine tkC (fun K hK => ?_) AllReadyH.nil
      go_simp
      refine (kb w1).mono ?_
      rintro e w2 ⟨rfl, hb⟩
      replace hS := stab_blk _ _ _ _ hS hb
      replace hBw := Below.then hBw hb
      replace hgr := hgr.below hb
      clear hb
      refine hK.out _ _ (hS) ?_
      clear hHeld hK
      intro hHeld
      (try simp only [Act.put, zsA, zsB, zsC])
      refine tkA 6 ?_
      refine tkR (rs := [7]) ?_
      refine tkC (fun K hK => ?_) AllReadyH.nil
      go_simp
      obtain ⟨x0, hx0⟩ : ∃ x0 : PN, x0 = ⟨segX simpP bottomL 7 ⟨4, 4, 4, 0⟩ ws, some ⟨gA, 0, none⟩, 1, va, vc⟩ := ⟨_, rfl⟩
      have kp := rputT_any a1 c1 L1 x0 (by rw [hL1.out]; decide) w2 (hrL.below hBw)
      have how9 := how.below hBw
      have hxa : x0.At w2 := by rw [hx0]; exact own_at (B := 0) (hgr.lower (Nat.zero_le _)) (how9.lower (Nat.zero_le _))
      rw [hL1.out] at kp
      have hx0c : x0.cs = nclT (segX simpP bottomL 7 ⟨4, 4, 4, 0⟩ ws) (some ⟨gA, 0, none⟩) 1 va vc := by rw [hx0]; rfl
      rw [hx0c] at kp
      refine kp.mono ?_
      rintro e w3 ⟨v9, rfl, ho9, hb⟩
      obtain ⟨a9, c9, hv9, -, -, -⟩ := ho9.slice pn_len
      subst hv9
      have hr9 := put_rowN ho9 (hrL.below hBw) hxa hb
      have hn9 : namesP (putP L1 x0) = simp1 is := by rw [put_names, hn1, hx0]; unfold simp1; rw [hws.out]
      replace hS := stab_blk _ _ _ _ hS hb
      replace hBw := Below.then hBw hb
      clear hb ho9 hxa how9 kp hx0 hx0c hgr
      refine hK.out _ _ (hS) ?_
      clear hHeld hK
      intro hHeld
      (try simp only [Act.put, zsA, zsB, zsC])
      refine tkA 8 ?_
      refine wpAnyH_done (by kernel_rfl) ?_ _
      clear hHeld
      go_wp2_with fail
      go_meet
      exact ⟨a9, c9, putP L1 x0, rfl, hr9, hn9, hS, Below.then hB5 hBw⟩
    case rest =>
    clear hS hBw hrL hB5 how
    obtain ⟨a2, c2, l2, rfl, hr2, hn2, hS, hBc⟩ := hcut
    obtain ⟨U, rfl⟩ : ∃ U, U = wc := ⟨_, rfl⟩
    have hl2 : l2.length ≤ 3 := by
      have h1 : (namesP l2).length = l2.length := by simp [namesP]
      have h2 := putX_len kpL0 (segX simpP bottomL 7 ⟨4, 4, 4, 0⟩ (is.map insW))
      have h3 : kpL0.length = 2 := by decide +kernel
      rw [← h1, hn2]
      unfold simp1
      omega
    obtain ⟨Y, hY⟩ : ∃ Y : List Value, Y = [.string simpD, .bool false, .int .i64 bottomL.s, .int .i64 bottomL.c, .int .i64 bottomL.i, .int .i64 bottomL.k, .slice none 0 0, .int .i64 4, .int .i64 4, .int .i64 4, .int .i64 0, .slice da nd dc, .int .i64 0, .int .i64 0, .int .i64 0, .int .i64 0] := ⟨_, rfl⟩
    have hYl : Y.length = 16 := by rw [hY]; rfl
    have hYo : ∀ x ∈ Y, x.oneCell' = true := fun x hx => by
      rw [hY] at hx
      simp only [List.mem_cons, List.not_mem_nil, or_false] at hx
      rcases hx with rfl | rfl | rfl | rfl | rfl | rfl | rfl | rfl | rfl | rfl | rfl | rfl | rfl | rfl | rfl | rfl <;> rfl
    have hsY : (Tryz.prog.info? 36).map (·.size) = some Y.length := by rw [hYl]; exact hszN
    have hYx : ({ segX simpD bottomL m ⟨4, 4, 4, 0⟩ d with acl := [] } : Nod) = { segX simpD bottomL m ⟨4, 4, 4, 0⟩ d with acl := [] } := rfl
    have hYc : Aside (Y = nclT { segX simpD bottomL m ⟨4, 4, 4, 0⟩ d with acl := [] } none 0 da dc) := by
      show _ = _
      rw [hY, ← hnd.out]
      rfl
    have hY6 : ∀ g, Aside (Y.set 6 (.slice (some ⟨g, 0, none⟩) 1 1) = nclT (segX simpD bottomL m ⟨4, 4, 4, 0⟩ d) (some ⟨g, 0, none⟩) 1 da dc) := fun g => by
      show _ = _
      rw [hY, ← hnd.out]
      rfl
    replace hY : Aside (Value.agg #[.string simpD, .bool false, .int .i64 bottomL.s, .int .i64 bottomL.c, .int .i64 bottomL.i, .int .i64 bottomL.k, .slice none 0 0, .int .i64 4, .int .i64 4, .int .i64 4, .int .i64 0, .slice da nd dc, .int .i64 0, .int .i64 0, .int .i64 0, .int .i64 0] = Value.agg Y.toArray) := by
      show _ = _
      rw [hY]
    clear hYx
    have hlt : gr < U.heap.size := hS.2
    have hBw : Below U.heap.size U U.drew := (Below.refl _ _).drew
    replace hS := stab_blk _ _ _ _ hS hBw
    go_upto_region 10 with fail
    (try simp only [Act.put])
    go_cut [13] from 45 to 48 (fun s13 wd => ∃ gN : Nat, s13 = .pointer (some ⟨gN, 0, none⟩) ∧ BlkL gN Y wd ∧ Below U.heap.size U wd ∧ U.heap.size ≤ gN)
    · skip
      refine wp_region_held_drew (S := (fun W => BlkL gr ([.int .i64 4, .int .i64 4, .int .i64 4, .int .i64 0] : List Value) W)) (by kernel_rfl) (by exact hS) ?_
      intro hHeld
      generalize U.drew = w0 at *
      refine tkB 1 (y := yields_row (by rfl) _ rfl gr rfl ([.int .i64 4, .int .i64 4, .int .i64 4, .int .i64 0] : List Value) (fun _ s => BlkL.range s) hundR rfl hsr) (h := ?_)
      refine tkA 2 ?_
      refine tkR (rs := [0, 4]) ?_
      refine tkC (fun K hK => ?_) ?_
      · go_simp
        refine (kb w0).mono ?_
        rintro e w1 ⟨rfl, hb⟩
        replace hS := stab_blk _ _ _ _ hS hb
        replace hBw := Below.then hBw hb
        clear hb
        refine hK.out _ _ (hS) ?_
        clear hHeld hK
        intro hHeld
        (try simp only [Act.put, zsA, zsB, zsC])
        refine tkA 3 ?_
        refine tkR (rs := [4]) ?_
        refine tkC (fun K hK => ?_) AllReadyH.nil
        have hb := alloc_below w1 (.cells ZNP 36)
        refine step_allocC (z := ZNP) rfl rfl (fun _ => rfl) ?_
        (try simp only [Act.put, zsA, zsB, zsC])
        refine hK.out _ _ (stab_blk _ _ _ _ hS hb) ?_
        clear hHeld hK
        intro hHeld
        have hz : BlkL w1.heap.size zeroP.cs (w1.alloc (.cells ZNP 36)) := blkl_alloc w1 ZNP 36
        have hgN : U.heap.size ≤ w1.heap.size := hBw.size
        replace hS := stab_blk _ _ _ _ hS hb
        replace hBw := Below.then hBw hb
        generalize w1.alloc (.cells ZNP 36) = w2 at *
        generalize w1.heap.size = gN at *
        clear hb
        (try simp only [Act.put, zsA, zsB, zsC])
        refine tkR (rs := [5]) ?_
        refine tkC (fun K hK => ?_) AllReadyH.nil
        obtain ⟨V9, hV9, hth9, hz2, hb9⟩ := put_any hz (ds := Y) (by rw [hYl]; rfl) (by rw [hYl]; decide)
        refine step_store_rowC rfl _ _ rfl gN rfl Y hY.out hth9 hsY hYo hV9 ?_
        (try simp only [Act.put, zsA, zsB, zsC])
        replace hBw := hb9 _ _ hgN hBw
        replace hz := hz2
        have hgr2 : gr ≠ gN := fun q => by have := hlt; omega
        replace hS : BlkL gr ([.int .i64 4, .int .i64 4, .int .i64 4, .int .i64 0] : List Value) V9 := ⟨hS.1.same (by rw [← hV9]; exact heap_setCells_other hgr2 _ _ _), Nat.lt_of_lt_of_le hS.2 (hb9 0 w2 (Nat.zero_le _) (Below.refl _ _)).size⟩
        clear hz2 hV9 hth9 hb9
        refine hK.out _ _ (hS) ?_
        clear hHeld hK
        intro hHeld
        (try simp only [Act.put, zsA, zsB, zsC])
        refine wpAnyH_done (by kernel_rfl) ?_ _
        clear hHeld
        go_wp2_with fail
        go_meet
        exact ⟨gN, rfl, hz, hBw, hgN⟩
      refine tkC (fun K hK => ?_) AllReadyH.nil
      have hb := alloc_below w0 (.cells ZNP 36)
      refine step_allocC (z := ZNP) rfl rfl (fun _ => rfl) ?_
      (try simp only [Act.put, zsA, zsB, zsC])
      refine hK.out _ _ (stab_blk _ _ _ _ hS hb) ?_
      clear hHeld hK
      intro hHeld
      have hz : BlkL w0.heap.size zeroP.cs (w0.alloc (.cells ZNP 36)) := blkl_alloc w0 ZNP 36
      have hgN : U.heap.size ≤ w0.heap.size := hBw.size
      replace hS := stab_blk _ _ _ _ hS hb
      replace hBw := Below.then hBw hb
      generalize w0.alloc (.cells ZNP 36) = w1 at *
      generalize w0.heap.size = gN at *
      clear hb
      (try simp only [Act.put, zsA, zsB, zsC])
      refine tkR (rs := [0]) ?_
      refine tkC (fun K hK => ?_) AllReadyH.nil
      go_simp
      refine (kb w1).mono ?_
      rintro e w2 ⟨rfl, hb⟩
      replace hS := stab_blk _ _ _ _ hS hb
      replace hBw := Below.then hBw hb
      replace hz := stab_blk _ _ _ _ hz hb
      clear hb
      refine hK.out _ _ (hS) ?_
      clear hHeld hK
      intro hHeld
      (try simp only [Act.put, zsA, zsB, zsC])
      refine tkA 3 ?_
      refine tkR (rs := [5]) ?_
      refine tkC (fun K hK => ?_) AllReadyH.nil
      obtain ⟨V9, hV9, hth9, hz2, hb9⟩ := put_any hz (ds := Y) (by rw [hYl]; rfl) (by rw [hYl]; decide)
      refine step_store_rowC rfl _ _ rfl gN rfl Y hY.out hth9 hsY hYo hV9 ?_
      (try simp only [Act.put, zsA, zsB, zsC])
      replace hBw := hb9 _ _ hgN hBw
      replace hz := hz2
      have hgr2 : gr ≠ gN := fun q => by have := hlt; omega
      replace hS : BlkL gr ([.int .i64 4, .int .i64 4, .int .i64 4, .int .i64 0] : List Value) V9 := ⟨hS.1.same (by rw [← hV9]; exact heap_setCells_other hgr2 _ _ _), Nat.lt_of_lt_of_le hS.2 (hb9 0 w2 (Nat.zero_le _) (Below.refl _ _)).size⟩
      clear hz2 hV9 hth9 hb9
      refine hK.out _ _ (hS) ?_
      clear hHeld hK
      intro hHeld
      (try simp only [Act.put, zsA, zsB, zsC])
      refine wpAnyH_done (by kernel_rfl) ?_ _
      clear hHeld
      go_wp2_with fail
      go_meet
      exact ⟨gN, rfl, hz, hBw, hgN⟩
    case rest =>
    clear hS hBw hlt
    obtain ⟨gN, rfl, hz, hBw, hgN⟩ := hcut
    have hDd := hD.below wd_okC.len (Below.then hBc hBw)
    by_cases hm : 0 < m
    · have hfin2 : Aside (simp2 d m = segX simpD bottomL m ⟨4, 4, 4, 0⟩ d) := by
        show _ = _
        unfold simp2
        rw [if_pos hm]
        rfl
      have hga := own_oneP gr_okT wc (Nat.le_refl _) (⟨starS, m⟩ : Gr)
      have hb := alloc_below wc (.cells (gcl ⟨starS, m⟩).toArray 119)
      have hgw : gN < wc.heap.size := hz.2
      obtain ⟨W7, hW7⟩ : ∃ W7, wc.alloc (.cells (gcl ⟨starS, m⟩).toArray 119) = W7 := ⟨_, rfl⟩
      have hW7' : Aside (wc.alloc (.cells #[.string ⟨#[42]⟩, .int .i64 m] 119) = W7) := hW7
      rw [hW7] at hga hb
      have hz7 := stab_blk _ _ _ _ hz hb
      have hq := (hz7.1 6 _ (List.getElem?_eq_getElem (by rw [hYl]; decide))).1
      have hf := (hz7.1 6 _ (List.getElem?_eq_getElem (by rw [hYl]; decide))).2
      have hz8 := blk_setS hz7 (i := 6) (by rw [hYl]; decide) (.slice (some ⟨wc.heap.size, 0, none⟩) 1 1)
      have hga8 := hga.set (g := gN) (j := 6) (u := .slice (some ⟨wc.heap.size, 0, none⟩) 1 1) (fun q => by have h9 : wc.heap.size = gN := Option.some.inj q; omega)
      have hb8 := (Below.then hBw hb).setCell (p := ⟨gN, 6, none⟩) hgN (.slice (some ⟨wc.heap.size, 0, none⟩) 1 1)
      obtain ⟨W8, hW8⟩ : ∃ W8, W7.setCell ⟨gN, 6, none⟩ (.slice (some ⟨wc.heap.size, 0, none⟩) 1 1) = W8 := ⟨_, rfl⟩
      rw [hW8] at hz8 hga8 hb8
      rw [(hY6 wc.heap.size).out] at hz8
      obtain ⟨x, hx⟩ : ∃ x : PN, x = ⟨segX simpD bottomL m ⟨4, 4, 4, 0⟩ d, some ⟨wc.heap.size, 0, none⟩, 1, da, dc⟩ := ⟨_, rfl⟩
      replace hz8 : BlkL gN x.cs W8 := by rw [hx]; exact hz8
      have hxa : x.At W8 := by
        obtain ⟨a5, c5, e5, -, -, r5⟩ := hga8.slice gr_okT.len
        injection e5 with q4 q5 q6
        subst q4
        rw [hx]
        exact ⟨row_grs r5, row_wrds (hD.below wd_okC.len (Below.then hBc hb8))⟩
      have hxn : Aside (x.n = simp2 d m) := by
        show _ = _
        rw [hfin2.out, hx]
      have kp := rputT_any a2 c2 l2 x (by omega) W8 (hr2.below hb8)
      have hgr := hz8.range
      have hszx : (Tryz.prog.info? 36).map (·.size) = some x.cs.length := by rw [pn_len]; exact hszN
      clear hx hz8 hga8 hz7 hga hb hz hY6 hYc hY hfin2
      go_upto_region 13 with (first | (refine wpList_stL rfl _ _ rfl ⟨gN, 6, none⟩ rfl (.slice (some ⟨wc.heap.size, 0, none⟩) 1 1) rfl (by rw [hW7'.out]; exact grsP_store _ _ _ _ hq hf rfl) ?_) | fail)
      (try simp only [Act.put])
      rw [hW7'.out, hW8]
      clear hq hf hW7 hW7' hW8
      go_wp2_with (first | (refine wpList_load_row rfl _ rfl gN rfl x.cs hgr hundN rfl hszx ?_) | fail)
      refine kp.mono ?_
      rintro e W9 ⟨v9, rfl, ho9, hb9⟩
      obtain ⟨a9, c9, hv9, -, -, -⟩ := ho9.slice pn_len
      subst hv9
      have hr9 := put_rowN ho9 (hr2.below hb8) hxa hb9
      have hn9 : namesP (putP l2 x) = simpN is d m := by rw [put_names, hn2, hxn.out]; rfl
      have hfin := Below.then (Below.then hBc hb8) hb9
      clear kp ho9 hb9
      go_wp2_with fail
      go_ret
      exact ⟨putP l2 x, a9, c9, rfl, hr9, hn9, hfin⟩
    · obtain ⟨x, hx⟩ : ∃ x : PN, x = ⟨simp2 d m, none, 0, da, dc⟩ := ⟨_, rfl⟩
      have hs2 : simp2 d m = { segX simpD bottomL m ⟨4, 4, 4, 0⟩ d with acl := [] } := by
        unfold simp2
        rw [if_neg hm]
      have hxn : Aside (x.n = simp2 d m) := by
        show _ = _
        rw [hx]
      replace hz : BlkL gN x.cs wc := by
        rw [hYc.out] at hz
        rw [hx]
        show BlkL gN (nclT (simp2 d m) none 0 da dc) wc
        rw [hs2]
        exact hz
      have hxa : x.At wc := by
        rw [hx, hs2]
        exact ⟨fun j q h => by simp at h, row_wrds hDd⟩
      have kp := rputT_any a2 c2 l2 x (by omega) wc (hr2.below hBw)
      have hgr := hz.range
      have hszx : (Tryz.prog.info? 36).map (·.size) = some x.cs.length := by rw [pn_len]; exact hszN
      clear hx hs2 hz hY6 hYc hY
      go_wp2_with (first | (refine wpList_load_row rfl _ rfl gN rfl x.cs hgr hundN rfl hszx ?_) | fail)
      refine kp.mono ?_
      rintro e W9 ⟨v9, rfl, ho9, hb9⟩
      obtain ⟨a9, c9, hv9, -, -, -⟩ := ho9.slice pn_len
      subst hv9
      have hr9 := put_rowN ho9 (hr2.below hBw) hxa hb9
      have hn9 : namesP (putP l2 x) = simpN is d m := by rw [put_names, hn2, hxn.out]; rfl
      have hfin := Below.then (Below.then hBc hBw) hb9
      clear kp ho9 hb9
      go_wp2_with fail
      go_ret
      exact ⟨putP l2 x, a9, c9, rfl, hr9, hn9, hfin⟩
end Go.Proofs.YtidihdiffiffmaaGreatDoor
namespace Go.Proofs.YtidihdiffiffmaaGreatDoor
open Go.RowKit
set_option maxRecDepth 8000
set_option linter.unusedSimpArgs false
set_option linter.unusedVariables false
def mvI : List Ins := [⟨1, 0, 6⟩, ⟨2, 1, 1⟩, ⟨1, 1, 1⟩, ⟨22, 0, 0⟩, ⟨0, 0, 0⟩, ⟨0, 0, 0⟩, ⟨0, 0, 0⟩]
def mvL (a b m : Int) : List Nod := simpN mvI [a, b] m
def mvR (a b m : Int) : Rn := runP kaS bottomL [simpP, simpD] 50 (mvL a b m) newC
theorem mv_make0 (a b : Int) : makeE (mvL a b 0) kaS bottomL [simpP, simpD] = 16 := by kernel_rfl
theorem mv_make2 (a b : Int) : makeE (mvL a b 2) kaS bottomL [simpP, simpD] = 16 := by kernel_rfl
theorem mv_make4 (a b : Int) : makeE (mvL a b 4) kaS bottomL [simpP, simpD] = 16 := by kernel_rfl
theorem mv_make6 (a b : Int) : makeE (mvL a b 6) kaS bottomL [simpP, simpD] = 16 := by kernel_rfl
theorem mv_make1 (a b : Int) : makeE (mvL a b 1) kaS bottomL [simpP, simpD] = 0 := by kernel_rfl
theorem mv_make3 (a b : Int) : makeE (mvL a b 3) kaS bottomL [simpP, simpD] = 0 := by kernel_rfl
theorem mv_make5 (a b : Int) : makeE (mvL a b 5) kaS bottomL [simpP, simpD] = 0 := by kernel_rfl
theorem mv_make7 (a b : Int) : makeE (mvL a b 7) kaS bottomL [simpP, simpD] = 0 := by kernel_rfl
theorem mv_run3 (a b : Int) : mvR a b 3 = ⟨mvL a 0 3, (mvR a b 3).c, [0], true, 0⟩ := by kernel_rfl
theorem mv_run7 (a b : Int) : mvR a b 7 = ⟨mvL a 0 7, (mvR a b 7).c, [0], true, 0⟩ := by kernel_rfl
theorem mv_run1 (a b : Int) : mvR a b 1 = ⟨mvL a b 1, (mvR a b 1).c, [], true, 32⟩ := by kernel_rfl
theorem mv_run5 (a b : Int) : mvR a b 5 = ⟨mvL a b 5, (mvR a b 5).c, [], true, 32⟩ := by kernel_rfl
theorem mv_find (a b : Int) (m : Int) : findN (mvL a b m) simpD = some (simp2 [a, b] m) := by kernel_rfl
theorem mv_ok1 : nodC (segX simpP bottomL 7 ⟨4, 4, 4, 0⟩ (mvI.map insW)) = 0 := by decide +kernel
theorem mv_n0 (a b : Int) : nodC (simp2 [a, b] 0) = 0 := by kernel_rfl
theorem mv_n1 (a b : Int) : nodC (simp2 [a, b] 1) = 0 := by kernel_rfl
theorem mv_n2 (a b : Int) : nodC (simp2 [a, b] 2) = 0 := by kernel_rfl
theorem mv_n3 (a b : Int) : nodC (simp2 [a, b] 3) = 0 := by kernel_rfl
theorem mv_n4 (a b : Int) : nodC (simp2 [a, b] 4) = 0 := by kernel_rfl
theorem mv_n5 (a b : Int) : nodC (simp2 [a, b] 5) = 0 := by kernel_rfl
theorem mv_n6 (a b : Int) : nodC (simp2 [a, b] 6) = 0 := by kernel_rfl
theorem mv_n7 (a b : Int) : nodC (simp2 [a, b] 7) = 0 := by kernel_rfl
theorem mv_ok2 (a b : Int) {m : Int} (h0 : 0 ≤ m) (h8 : m < 8) : nodC (simp2 [a, b] m) = 0 := by
  obtain ⟨k, rfl⟩ : ∃ k : Nat, m = (k : Int) := ⟨m.toNat, by omega⟩
  match k, (by omega : k < 8) with
  | 0, _ => exact mv_n0 a b
  | 1, _ => exact mv_n1 a b
  | 2, _ => exact mv_n2 a b
  | 3, _ => exact mv_n3 a b
  | 4, _ => exact mv_n4 a b
  | 5, _ => exact mv_n5 a b
  | 6, _ => exact mv_n6 a b
  | 7, _ => exact mv_n7 a b
theorem mv_inv {a b m : Int} (h0 : 0 ≤ m) (h8 : m < 8) (ha : -9223372036854775808 ≤ a ∧ a ≤ 9223372036854775807) (hb : -9223372036854775808 ≤ b ∧ b ≤ 9223372036854775807) : InvP (mvL a b m) := by
  have hroot : rootN ∈ kpL0 := by rw [kp_L0]; simp
  have t1 : Tree (simp1 mvI) := kp_tree0.put mv_ok1 (by decide +kernel) (by decide +kernel) (d := rootN) hroot (by decide +kernel) rfl (by decide +kernel) (fun _ => rfl)
  have hp2 : (simp2 [a, b] m).path = simpD := rfl
  have t2 : Tree (mvL a b m) := t1.put (mv_ok2 a b h0 h8) (by rw [hp2]; decide +kernel) (by rw [hp2]; decide +kernel) (d := rootN) (put_mem.2 (.inr ⟨hroot, by decide +kernel⟩)) (by rw [hp2]; decide +kernel) rfl (show rov bottomL rootN.label = true by decide +kernel) (fun _ => rfl)
  refine ⟨t2, fun x hx w hw => ?_⟩
  rcases put_mem.1 hx with rfl | ⟨hx, _⟩
  · have hw2 : w ∈ [a, b] := hw
    simp at hw2
    rcases hw2 with rfl | rfl
    · exact ha
    · exact hb
  · rcases put_mem.1 hx with rfl | ⟨hx, _⟩
    · obtain ⟨i, _, rfl⟩ := List.mem_map.1 (show w ∈ mvI.map insW from hw)
      exact insW_fit i
    · rw [kp_L0] at hx
      simp at hx
      rcases hx with rfl | rfl
      · cases hw
      · cases hw
end Go.Proofs.YtidihdiffiffmaaGreatDoor
namespace Go.Proofs.YtidihdiffiffmaaGreatDoor
open Go.RowKit
set_option maxRecDepth 8000
set_option linter.unusedSimpArgs false
set_option linter.unusedVariables false
theorem st_setA {c : Cp} (v : Value) (x : Int) : (stCs c v).set 3 (.int .i64 x) = stCs { c with a := x } v := rfl
theorem StAt.setA {b : Nat} {c : Cp} {v : Value} {W : World} (h : StAt b c v W) (x : Int) : StAt b { c with a := x } v (W.setCell ⟨b, 3, none⟩ (.int .i64 x)) := by
  have h1 := h.blk.1.set 3 (.int .i64 x) (by rw [st_len h.ps]; decide)
  rw [st_setA] at h1
  exact ⟨h.ps, h1, h1.lt rfl⟩
theorem SV.off {v : Value} {st : List Fr} {W W' : World} {b : Nat} (h : SV v st W) (hne : v.ownBlock ≠ some b) (k : Sole b W W') : SV v st W' := by
  obtain ⟨a, cap, hv, hn, hr⟩ := h
  refine ⟨a, cap, hv, hn, fun j x hx => ?_⟩
  obtain ⟨y, hy, hc⟩ := hr j x hx
  refine ⟨y, hy, fun i hi => ?_⟩
  have h1 := hc i hi
  obtain ⟨u, hu⟩ : ∃ u, (frc x)[i]? = some u := ⟨_, List.getElem?_eq_getElem (by rw [frc_len]; exact hi)⟩
  rw [hu] at h1 ⊢
  have hlt := World.block_lt_of_cell? _ _ h1
  have hb := k.block _ hlt (by rw [addC_block]; intro q; apply hne; rw [hv, hy]; simp [Value.ownBlock, q])
  exact (World.cell?_of_block hb).trans h1
abbrev z3 : Array Value := #[.int .i64 0, .int .i64 0, .int .i64 0]
end Go.Proofs.YtidihdiffiffmaaGreatDoor
namespace Go.Proofs.YtidihdiffiffmaaGreatDoor
open Go.RowKit
set_option maxRecDepth 8000
set_option linter.unusedSimpArgs false
set_option linter.unusedVariables false
structure RS (w W : World) (u : ByteArray) (t : Lab) (b : Value) (X : List Value) : Prop where
  bl : Below w.heap.size w W
  sb : BlkL w.heap.size (sbL u t) W
  pr : BlkL (w.heap.size + 1) (prL b X) W
  rs : BlkL (w.heap.size + 2) (prL nilS (stCs zeroC nilS)) W
theorem RS.then {w W W' : World} {u : ByteArray} {t : Lab} {b : Value} {X : List Value} (h : RS w W u t b X) (k : Below W.heap.size W W') : RS w W' u t b X := ⟨Below.then h.bl k, stab_blk _ _ _ _ h.sb k, stab_blk _ _ _ _ h.pr k, stab_blk _ _ _ _ h.rs k⟩
structure Three (b : Nat) (g : Option Nat) (V W : World) : Prop where
  os : W.os = V.os
  tape : W.tape = V.tape
  output : W.output = V.output
  size : V.heap.size ≤ W.heap.size
  block : ∀ j, j < V.heap.size → (j < b ∨ b + 3 ≤ j) → g ≠ some j → W.heap[j]? = V.heap[j]?
theorem Three.of {b : Nat} {g : Option Nat} {V W : World} (h : Below V.heap.size V W) : Three b g V W := ⟨h.os, h.tape, h.output, h.size, fun j hj _ _ => h.block j hj⟩
theorem Three.trans {b : Nat} {g : Option Nat} {U V W : World} (h : Three b g U V) (k : Three b g V W) : Three b g U W := ⟨k.os.trans h.os, k.tape.trans h.tape, k.output.trans h.output, Nat.le_trans h.size k.size, fun j hj hn hg => (k.block j (Nat.lt_of_lt_of_le hj h.size) hn hg).trans (h.block j hj hn hg)⟩
theorem Three.cells {b q : Nat} {g : Option Nat} {V W : World} (h : Three b g V W) (h1 : b ≤ q) (h2 : q < b + 3) (o : Nat) (us : List Value) : Three b g V (W.setCells q o us) := by
  have k := Below.cells (B := 0) (b := q) (Nat.zero_le _) us o (Below.refl 0 W)
  exact ⟨k.os.trans h.os, k.tape.trans h.tape, k.output.trans h.output, Nat.le_trans h.size k.size, fun j hj hn hg => (heap_setCells_other (by omega) us o W).trans (h.block j hj hn hg)⟩
theorem Three.drew {b : Nat} {g : Option Nat} {V W : World} (h : Three b g V W) : Three b g V W.drew := ⟨h.os, h.tape, h.output, h.size, h.block⟩
theorem Three.below {b : Nat} {w V W : World} (h : Below b w V) (k : Three b none V W) (hb : b ≤ w.heap.size) : Below b w W := ⟨k.os.trans h.os, k.tape.trans h.tape, k.output.trans h.output, Nat.le_trans h.size k.size, fun j hj => (k.block j (by have := h.size; omega) (.inl hj) (fun q => by cases q)).trans (h.block j hj)⟩
def Stay (b : Nat) (g : Option Nat) (V : World) (P : World → Prop) : Prop := ∀ W, Three b g V W → P W
theorem Stay.then {b : Nat} {g : Option Nat} {V W : World} {P : World → Prop} (h : Stay b g V P) (k : Three b g V W) : Stay b g W P := fun X hX => h X (k.trans hX)
theorem RS.low {w V W : World} {u : ByteArray} {t : Lab} {b : Value} {X : List Value} (h : RS w V u t b X) (k : Below (w.heap.size + 3) V W) : RS w W u t b X :=
  ⟨h.bl.trans (k.mono (by omega)), ⟨h.sb.1.same (k.block _ (by omega)), Nat.lt_of_lt_of_le h.sb.2 k.size⟩, ⟨h.pr.1.same (k.block _ (by omega)), Nat.lt_of_lt_of_le h.pr.2 k.size⟩, ⟨h.rs.1.same (k.block _ (by omega)), Nat.lt_of_lt_of_le h.rs.2 k.size⟩⟩
end Go.Proofs.YtidihdiffiffmaaGreatDoor
namespace Go.Proofs.YtidihdiffiffmaaGreatDoor
open Go.RowKit
set_option maxRecDepth 8000
set_option linter.unusedSimpArgs false
set_option linter.unusedVariables false
theorem row_listP {α : Type} {sz : Nat} {f : α → List Value} (hf : ∀ x, (f x).length = sz) (w : World) (l : List α) (cs : Array Value) (hcs : cs = (l.flatMap f).toArray) (T : TypeId) : RowAt sz f (w.alloc (.cells cs T)) (some ⟨w.heap.size, 0, none⟩) l := fun j x hx => by
  refine ⟨_, rfl, fun i hi => ?_⟩
  rw [add_at, World.cell?_alloc_at _ _ _ _ rfl, hcs]
  rw [List.getElem?_toArray, flat_at hf l j i x hx hi]
theorem fine_of {l : List PN} {L : List Nod} (h : namesP l = L) (hI : InvP L) (hl : l.length ≤ 1000) : FineL l := ⟨hl, by rw [h]; exact hI.tr.ord, fun y hy => hI.tr.ok y.n (by rw [← h]; exact List.mem_map.2 ⟨y, hy, rfl⟩)⟩
theorem pr_oneL (bv : Value) (c : Cp) (v : Value) (hb : bv.oneCell' = true) (hv : v.oneCell' = true) : ∀ x ∈ prL bv (stCs c v), x.oneCell' = true := fun x hx => (List.mem_cons.1 hx).elim (fun q => by rw [q]; exact hb) (fun q => st_one c v hv x q)
theorem pr_lenL {c : Cp} (h : c.ps.length = 4) (bv v : Value) : (prL bv (stCs c v)).length = 19 := by
  show (stCs c v).length + 1 = 19
  rw [st_len h]
end Go.Proofs.YtidihdiffiffmaaGreatDoor
namespace Go.Proofs.YtidihdiffiffmaaGreatDoor
open Go.RowKit
set_option maxRecDepth 8000
set_option linter.unusedSimpArgs false
set_option linter.unusedVariables false
theorem int_fitsM {n : Int} (h : (Lit.int .i64 n).wf = true) : -9223372036854775808 ≤ n ∧ n ≤ 9223372036854775807 := by
  simpa [Lit.wf, IntKind.min, IntKind.max, IntKind.bits, IntKind.signed] using h
theorem wrdsW_load (w : World) (y : Addr) (v : Value) (h : w.cell? y = some v) : (Instr.loadAt 34 (.pointer (some y))).run Tryz.prog w = .ok v w := by
  have h1 := Tryz.underlying34
  go_simp
theorem mv_and : ∀ k : Fin 8, bits BinOp.and IntKind.i64 (k.val : Int) 1 = ((k.val % 2 : Nat) : Int) := by decide +kernel
theorem mv_and2 : ∀ k : Fin 8, bits BinOp.and IntKind.i64 (k.val : Int) 2 = ((k.val / 2 % 2 * 2 : Nat) : Int) := by decide +kernel
theorem mv_makeE (a b : Int) (k : Nat) (h : k < 8) (he : k % 2 = 0) : makeE (mvL a b k) kaS bottomL [simpP, simpD] = 16 := by
  match k, h, he with
  | 0, _, _ => exact mv_make0 a b
  | 2, _, _ => exact mv_make2 a b
  | 4, _, _ => exact mv_make4 a b
  | 6, _, _ => exact mv_make6 a b
  | n + 7, h, he => omega
theorem mv_makeO (a b : Int) (k : Nat) (h : k < 8) (he : k % 2 = 1) : makeE (mvL a b k) kaS bottomL [simpP, simpD] = 0 := by
  match k, h, he with
  | 1, _, _ => exact mv_make1 a b
  | 3, _, _ => exact mv_make3 a b
  | 5, _, _ => exact mv_make5 a b
  | 7, _, _ => exact mv_make7 a b
theorem mv_runW (a b : Int) (k : Nat) (h : k < 8) (he : k % 2 = 1) (h2 : k / 2 % 2 = 1) : ∃ c, mvR a b k = ⟨mvL a 0 k, c, [0], true, 0⟩ := by
  match k, h, he, h2 with
  | 3, _, _, _ => exact ⟨_, mv_run3 a b⟩
  | 7, _, _, _ => exact ⟨_, mv_run7 a b⟩
theorem mv_runN (a b : Int) (k : Nat) (h : k < 8) (he : k % 2 = 1) (h2 : k / 2 % 2 = 0) : ∃ c, mvR a b k = ⟨mvL a b k, c, [], true, 32⟩ := by
  match k, h, he, h2 with
  | 1, _, _, _ => exact ⟨_, mv_run1 a b⟩
  | 5, _, _, _ => exact ⟨_, mv_run5 a b⟩
  | n + 6, h, he, h2 => omega
theorem mv_sz : ∀ p ∈ [simpP, simpD], p.size ≤ 1000 := by decide
theorem mv_len (a b m : Int) : (mvL a b m).length = 4 := by kernel_rfl
set_option maxRecDepth 20000 in
set_option maxHeartbeats 8000000 in
theorem procMoves_walk (modes a b : Int) (ha : -9223372036854775808 ≤ a ∧ a ≤ 9223372036854775807) (hb0 : -9223372036854775808 ≤ b ∧ b ≤ 9223372036854775807) (w : World) (hV : MaxV w) : Calls Tryz.prog 8 #[.int .i64 modes, .int .i64 a, .int .i64 b] w fun e w' => e = .returned (.bool true) ∧ Below w.heap.size w w' := by
  have hundM := Tryz.underlying52
  have hundP := Tryz.underlying47
  have hsm : (Tryz.prog.info? 52).map (·.size) = some (sbL kaS bottomL).length := by kernel_rfl
  have hszP : (Tryz.prog.info? 47).map (·.size) = some 19 := by kernel_rfl
  have kb := rlbotW_any
  obtain ⟨k, hk⟩ : ∃ k : Nat, modes % 8 = (k : Int) := ⟨(modes % 8).toNat, by have := Int.emod_nonneg modes (by decide : (8 : Int) ≠ 0); omega⟩
  have hk8 : k < 8 := by have := Int.emod_lt_of_pos modes (by decide : (0 : Int) < 8); omega
  have kw := fun W => w17_any modes 8 (by decide) (by decide) W
  rw [hk] at kw
  clear hk
  have hand := mv_and ⟨k, hk8⟩
  have hand2 := mv_and2 ⟨k, hk8⟩
  simp only at hand hand2
  have hI0 : InvP (mvL a b k) := mv_inv (by omega) (by omega) ha hb0
  go_enter Tryz.func8, Tryz.ntmps8
  go_wp2_with fail
  refine (lknown_any w hV).mono ?_
  rintro e W0 ⟨rfl, hB0⟩
  go_wp2_with fail
  refine (kw W0).mono ?_
  rintro e W1 ⟨rfl, rfl⟩
  have hrow := row_listP in_okW.len W1 mvI #[.int .i64 1, .int .i64 0, .int .i64 6, .int .i64 2, .int .i64 1, .int .i64 1, .int .i64 1, .int .i64 1, .int .i64 1, .int .i64 22, .int .i64 0, .int .i64 0, .int .i64 0, .int .i64 0, .int .i64 0, .int .i64 0, .int .i64 0, .int .i64 0, .int .i64 0, .int .i64 0, .int .i64 0] rfl 80
  have hb := alloc_below W1 (.cells #[.int .i64 1, .int .i64 0, .int .i64 6, .int .i64 2, .int .i64 1, .int .i64 1, .int .i64 1, .int .i64 1, .int .i64 1, .int .i64 22, .int .i64 0, .int .i64 0, .int .i64 0, .int .i64 0, .int .i64 0, .int .i64 0, .int .i64 0, .int .i64 0, .int .i64 0, .int .i64 0, .int .i64 0] 80)
  have hB1 := Below.then hB0 hb
  obtain ⟨W2, hW2⟩ : ∃ W2, W1.alloc (.cells #[.int .i64 1, .int .i64 0, .int .i64 6, .int .i64 2, .int .i64 1, .int .i64 1, .int .i64 1, .int .i64 1, .int .i64 1, .int .i64 22, .int .i64 0, .int .i64 0, .int .i64 0, .int .i64 0, .int .i64 0, .int .i64 0, .int .i64 0, .int .i64 0, .int .i64 0, .int .i64 0, .int .i64 0] 80) = W2 := ⟨_, rfl⟩
  rw [hW2] at hrow hb hB1
  have hrowd := row_listP (f := wcl) (sz := 1) (fun _ => rfl) W2 [a, b] #[.int .i64 a, .int .i64 b] rfl 2
  have hb2 := alloc_below W2 (.cells #[.int .i64 a, .int .i64 b] 2)
  have hB2 := Below.then hB1 hb2
  have hrow2 := hrow.below in_okW.len hb2
  obtain ⟨W3, hW3⟩ : ∃ W3, W2.alloc (.cells #[.int .i64 a, .int .i64 b] 2) = W3 := ⟨_, rfl⟩
  rw [hW3] at hrowd hrow2 hB2
  have ks := psimple_any (some ⟨W1.heap.size, 0, none⟩) 7 mvI (by decide) (some ⟨W2.heap.size, 0, none⟩) 2 [a, b] k W3 hrow2 hrowd
  replace ks : Calls Tryz.prog 22 #[.slice (some ⟨W1.heap.size, 0, none⟩) 7 7, .slice (some ⟨W2.heap.size, 0, none⟩) 2 2, .int .i64 (k : Int)] W3 (PutR (mvL a b k) W3) := ks
  clear hrow hb hb2 hrow2 hrowd hB0 hB1
  go_wp2_with fail
  refine ks.mono ?_
  rintro e W4 ⟨l, a4, c, rfl, hr, hn, hb⟩
  have hB4 := Below.then hB2 hb
  clear ks hb hB2 hW2 hW3
  have hl : l.length = 4 := by
    have h1 : (namesP l).length = l.length := by simp [namesP]
    rw [← h1, hn]
    exact mv_len a b k
  have hF : FineL l := fine_of hn hI0 (by omega)
  have hI : InvP (namesP l) := by rw [hn]; exact hI0
  rw [hl]
  go_wp2_with fail
  refine (kb W4).mono ?_
  rintro e W5 ⟨rfl, hb5⟩
  obtain ⟨W6, hW6, hth6, hsb, hb⟩ := put_new W5 zSB 52 (sbL kaS bottomL) rfl (by decide)
  have hb46 := Below.then hb5 hb
  have hB6 := Below.then hB4 hb46
  have hon6 := sbL_one kaS bottomL
  go_upto_region 6 with (first | (refine wpList_store_row rfl _ _ rfl W5.heap.size rfl (sbL kaS bottomL) rfl hth6 hsm hon6 hW6 ?_) | fail)
  clear hth6 hW6 hb hb5 hon6
  generalize W5.heap.size = gs at *
  have hrs := hsb.range
  have hrp := row_listP scl_ok.len W6 [simpP, simpD] #[.string simpP, .string simpD] rfl 9
  have hb := alloc_below W6 (.cells #[.string simpP, .string simpD] 9)
  have hb47 := Below.then hb46 hb
  have hB7 := Below.then hB6 hb
  have km := pmake_any a4 c l kaS bottomL (some ⟨W6.heap.size, 0, none⟩) 2 [simpP, simpD] hF bottom_GL (by decide) mv_sz _ (hr.below hb47) hrp (hV.below hB7)
  rw [hn, hl] at km
  obtain ⟨E, hE⟩ : ∃ E, makeE (mvL a b k) kaS bottomL [simpP, simpD] = E := ⟨_, rfl⟩
  rw [hE] at km
  replace km : Calls Tryz.prog 12 #[.slice a4 4 c, .agg (sbL kaS bottomL).toArray, .slice (some ⟨W6.heap.size, 0, none⟩) 2 2] (W6.alloc (.cells #[.string simpP, .string simpD] 9)) _ := km
  clear hrp
  go_wp2_with (first | (refine wpList_load_row rfl _ rfl gs rfl (sbL kaS bottomL) hrs hundM rfl hsm ?_) | fail)
  refine km.mono ?_
  by_cases hev : k % 2 = 0
  · rw [mv_makeE a b k hk8 hev] at hE
    subst hE
    rintro e W8 ⟨hb8, h0, -⟩
    obtain rfl := h0 (by decide)
    clear km h0 hrs
    obtain ⟨W9, hW9, hth9, hpr, hb9⟩ := put_new W8 zPC 47 (prL nilS (stCs zeroC nilS)) rfl (by simp)
    have hsz9 : (Tryz.prog.info? 47).map (·.size) = some (prL nilS (stCs zeroC nilS)).length := hszP
    have hon9 := pr_oneL nilS zeroC nilS rfl rfl
    have hfin := Below.then hB7 (Below.then hb8 hb9)
    rw [hev] at hand
    go_wp2_with (first | (refine wpList_store_row rfl _ _ rfl W8.heap.size rfl (prL nilS (stCs zeroC nilS)) rfl hth9 hsz9 hon9 hW9 ?_) | fail)
    go_ret
    exact ⟨rfl, hfin⟩
  · have hod : k % 2 = 1 := by omega
    rw [mv_makeO a b k hk8 hod] at hE
    subst hE
    rw [hod] at hand
    rintro e W8 ⟨hb8, -, h0⟩
    obtain ⟨bv, rfl, hob⟩ := h0 rfl
    clear km h0 hrs
    obtain ⟨ba, bc, rfl, -, -, hrb⟩ := hob.slice scl_ok.len
    obtain ⟨W9, hW9, hth9, hpr, hb9⟩ := put_new W8 zPC 47 (prL (.slice ba 2 bc) (stCs newC nilS)) rfl (by simp)
    have hb89 := Below.then hb8 hb9
    have hb49 := Below.then hb47 hb89
    have hB9 := Below.then hB7 hb89
    have hsz9 : (Tryz.prog.info? 47).map (·.size) = some (prL (.slice ba 2 bc) (stCs newC nilS)).length := hszP
    have hon9 := pr_oneL (.slice ba 2 bc) newC nilS rfl rfl
    have hsb9 := stab_blk _ _ _ _ hsb (Below.then hb hb89)
    have hrb9 := hrb.below scl_ok.len hb9
    obtain ⟨d2, out, E, hd2, hcase⟩ : ∃ (d2 : Int) (out : List Int) (E : Int), (∃ c, mvR a b k = ⟨mvL a d2 k, c, out, true, E⟩) ∧ ((k / 2 % 2 = 1 ∧ d2 = 0 ∧ out = [0] ∧ E = 0) ∨ (k / 2 % 2 = 0 ∧ d2 = b ∧ out = [] ∧ E = 32)) := by
      by_cases h2 : k / 2 % 2 = 1
      · exact ⟨0, [0], 0, mv_runW a b k hk8 hod h2, .inl ⟨h2, rfl, rfl, rfl⟩⟩
      · exact ⟨b, [], 32, mv_runN a b k hk8 hod (by omega), .inr ⟨by omega, rfl, rfl, rfl⟩⟩
    obtain ⟨cp, hrun⟩ := hd2
    have kr := prunA_any a4 c l kaS bottomL ba bc [simpP, simpD] newC nilS 50 ⟨mvL a d2 k, cp, out, true, E⟩ hF hI bottom_GL (by decide) mv_sz newC_ok rfl (by decide) (by rw [hn]; exact hrun) W9 (hr.below hb49) hrb9 (SV.nil _) (hV.below hB9)
    rw [hl] at kr
    obtain ⟨X, hX⟩ : ∃ X, prL (.slice ba 2 bc) (stCs newC nilS) = X := ⟨_, rfl⟩
    replace kr : Calls Tryz.prog 17 #[.slice a4 4 c, .agg (sbL kaS bottomL).toArray, .agg X.toArray, .int .i64 50] W9 (RunP [simpP, simpD] 4 ⟨mvL a d2 k, cp, out, true, E⟩ W9) := by rw [← hX]; exact kr
    rw [hX] at hW9 hth9 hpr hsz9 hon9
    go_upto_region 7 with (first | (refine wpList_store_row rfl _ _ rfl W8.heap.size rfl X rfl hth9 hsz9 hon9 hW9 ?_) | fail)
    have hrs9 := hsb9.range
    have hrp9 := hpr.range
    clear hX hth9 hW9 hon9 hrb9 hrb hob hsb hb hb8 hb9 hb89 hB7 hB6 hB4 hrun hb47 hb46 hb49 hpr hsb9
    generalize W8.heap.size = gp at *
    go_wp2_with (first | (refine wpList_load_row rfl _ rfl gs rfl (sbL kaS bottomL) hrs9 hundM rfl hsm ?_) | (refine wpList_load_row rfl _ rfl gp rfl X hrp9 hundP rfl hsz9 ?_) | fail)
    refine kr.mono ?_
    rintro e W10 ⟨l9, B9, bv9, v9, tv, rfl, hll9, -, hr9, -, hn9, -, hok9, hob9, hov9, hot, hb9⟩
    obtain ⟨ta, tc, rfl, -, -, hrt⟩ := hot.slice wd_okC.len
    obtain ⟨ba2, bc2, rfl, -, -, -⟩ := hob9.slice scl_ok.len
    have hv9 := (SV.own hov9).one
    have h4 := hok9.ps
    obtain ⟨W11, hW11, hth11, hp11, hb11⟩ := put_new W10 zPC 47 (prL (.slice ba2 2 bc2) (stCs cp v9)) (by rw [pr_lenL h4]; rfl) (by simp)
    have hsz11 : (Tryz.prog.info? 47).map (·.size) = some (prL (.slice ba2 2 bc2) (stCs cp v9)).length := by rw [pr_lenL h4]; exact hszP
    have hon11 := pr_oneL (.slice ba2 2 bc2) cp v9 rfl hv9
    have hB11 := Below.then hB9 (Below.then hb9 hb11)
    have hr11 := hr9.below hb11
    have hrt11 := hrt.below wd_okC.len hb11
    obtain ⟨Y, hY⟩ : ∃ Y, prL (.slice ba2 2 bc2) (stCs cp v9) = Y := ⟨_, rfl⟩
    rw [hY] at hW11 hth11 hsz11 hon11
    have hYe : Aside (Value.agg (prL (.slice ba2 2 bc2) (stCs cp v9)).toArray = .agg Y.toArray) := by show _ = _; rw [hY]
    obtain ⟨d, hd, hdn⟩ : ∃ d, findP l9 simpD = some d ∧ d.n = simp2 [a, d2] k := by
      have h1 := find_names l9 simpD
      rw [hn9, mv_find] at h1
      cases h2 : findP l9 simpD with
      | none => rw [h2] at h1; cases h1
      | some d => rw [h2] at h1; exact ⟨d, rfl, (Option.some.inj h1).symm⟩
    have hdat := hr11.p d (List.mem_of_find?_eq_some hd)
    have kfd := rfindT_any (some ⟨B9, 0, none⟩) 4 l9 simpD (by omega) W11 hr11
    rw [hd, hll9] at kfd
    replace kfd : Calls Tryz.prog 16 #[.slice (some ⟨B9, 0, none⟩) 4 4, .string ⟨#[47, 100]⟩] W11 fun e w' => e = .returned (.tuple #[.agg d.cs.toArray, .bool true]) ∧ Below W11.heap.size W11 w' := kfd
    clear hd hY kr hr9 hr11 hn9 hob9 hov9 hot hrt hb9 hb11 hp11 hB9 hrs9 hrp9 hok9 h4
    go_upto_region 10 with (first | (refine wpList_store_row rfl _ _ rfl W10.heap.size rfl Y rfl hth11 hsz11 hon11 hW11 ?_) | (refine wpList_store_row rfl _ _ rfl W10.heap.size rfl Y hYe.out hth11 hsz11 hon11 hW11 ?_) | fail)
    go_wp2_with fail
    refine kfd.mono ?_
    rintro e W12 ⟨rfl, hb12⟩
    obtain ⟨W13, hW13, hth13, hnd, hb⟩ := put_new W12 ZNP 36 d.cs (by rw [pn_len]; rfl) (by rw [pn_len]; decide)
    have hb1113 := Below.then hb12 hb
    have hfin := Below.then hB11 hb1113
    have hszN : (Tryz.prog.info? 36).map (·.size) = some d.cs.length := by rw [pn_len]; kernel_rfl
    have honeN := pn_one d
    have hwd := (hdat.below hb1113).w
    have hrt13 := hrt11.below wd_okC.len hb1113
    have hdw : d.n.words = [a, d2] := by rw [hdn]; rfl
    have hc11 : W13.cell? ⟨W12.heap.size, 11, none⟩ = some (.slice d.wa 2 d.cw) := by
      have h1 := (hnd.1 11 _ rfl).1
      rw [hdw] at h1
      exact h1
    rw [hdw] at hwd
    have hrw : RowAt 1 wcl W13 d.wa [a, d2] := wrds_row hwd
    obtain ⟨yw, hyw, hcw⟩ := hrw 0 a rfl
    rw [hyw] at hrw hc11
    have hq0 : W13.cell? (yw.add 0) = some (.int .i64 a) := (RowAt.at (f := wcl) (sz := 1) (fun _ => rfl) hrw (show [a, d2][0]? = some a from rfl)) 0 _ rfl
    have hq1 : W13.cell? (yw.add 1) = some (.int .i64 d2) := (RowAt.at (f := wcl) (sz := 1) (fun _ => rfl) hrw (show [a, d2][1]? = some d2 from rfl)) 0 _ rfl
    have hq00 : W13.cell? yw = some (.int .i64 a) := by
      have h1 := hq0
      rwa [show yw.add 0 = yw from by unfold Addr.add; split <;> simp_all] at h1
    have hq11 : W13.cell? ⟨yw.block, yw.off + 1, none⟩ = some (.int .i64 d2) := by
      have h1 := hq1
      rw [show yw.add 1 = yw.add (0 + 1) from rfl, add_off yw 0 1 (by decide), show yw.add 0 = yw from by unfold Addr.add; split <;> simp_all] at h1
      exact h1
    clear kfd hdat hwd hcw hrw hdn hdw hb1113 hb hb12 hB11 hnd hrt11
    go_upto_region 11 with (first | (refine wpList_store_row rfl _ _ rfl W12.heap.size rfl d.cs rfl hth13 hszN honeN hW13 ?_) | fail)
    generalize W12.heap.size = gd at *
    clear hth13 hW13 honeN hszN
    rcases hcase with ⟨h2, rfl, rfl, rfl⟩ | ⟨h2, rfl, rfl, rfl⟩
    · rw [h2] at hand2
      have hrt0 : ∃ yt, ta = some yt ∧ W13.cell? yt = some (.int .i64 0) := by
        obtain ⟨yt, hyt, hct⟩ := hrt13 0 0 rfl
        refine ⟨yt, hyt, ?_⟩
        have h1 := hct 0 (by decide)
        rwa [show yt.add (0 * 1 + 0) = yt from by unfold Addr.add; split <;> simp_all] at h1
      obtain ⟨yt, rfl, hqt⟩ := hrt0
      replace hqt : W13.cell? yt = some (.int .i64 0) := hqt
      go_upto_region 15 with fail
      have hS0 : Below W13.heap.size W13 W13.drew := (Below.refl _ _).drew
      refine wp_region_held_drew (S := (fun W => Below W13.heap.size W13 W)) (by kernel_rfl) (by exact hS0) ?_
      intro hHeld
      generalize W13.drew = w0 at *
      refine tkA 0 ?_
      refine tkA 1 ?_
      refine tkA 2 ?_
      refine tkA 3 ?_
      refine tkA 4 ?_
      refine tkA 5 ?_
      refine tkA 6 ?_
      refine tkA 7 ?_
      refine tkA 8 ?_
      refine tkA 9 ?_
      refine tkB 10 (y := yields_cellI (by rfl) _ rfl yt rfl (.int .i64 0) (fun _ q => (q.cell (World.block_lt_of_cell? _ _ hqt)).trans hqt) i64C_load) (h := ?_)
      refine tkA 11 ?_
      refine tkB 12 (y := yields_cellI (by rfl) _ rfl ⟨gd, 11, none⟩ rfl (.slice (some yw) 2 d.cw) (fun _ q => (q.cell (World.block_lt_of_cell? _ _ hc11)).trans hc11) wrdsW_load) (h := ?_)
      refine tkA 13 ?_
      refine tkB 14 (y := yields_cellI (by rfl) _ rfl ⟨yw.block, yw.off + 1, none⟩ rfl (.int .i64 0) (fun _ q => (q.cell (World.block_lt_of_cell? _ _ hq11)).trans hq11) i64C_load) (h := ?_)
      refine tkA 15 ?_
      refine tkA 16 ?_
      refine tkA 17 ?_
      refine tkA 18 ?_
      refine tkB 19 (y := yields_cellI (by rfl) _ rfl ⟨gd, 11, none⟩ rfl (.slice (some yw) 2 d.cw) (fun _ q => (q.cell (World.block_lt_of_cell? _ _ hc11)).trans hc11) wrdsW_load) (h := ?_)
      refine tkA 20 ?_
      refine tkB 21 (y := yields_cellI (by rfl) _ rfl ⟨yw.block, yw.off + 1, none⟩ rfl (.int .i64 0) (fun _ q => (q.cell (World.block_lt_of_cell? _ _ hq11)).trans hq11) i64C_load) (h := ?_)
      refine tkA 22 ?_
      refine tkA 23 ?_
      refine tkA 24 ?_
      refine wpAnyH_done (by kernel_rfl) ?_ _
      have hfin2 := Below.then hfin hS0
      go_wp2_with fail
      go_ret
      exact ⟨rfl, hfin2⟩
    · rw [h2] at hand2
      go_wp2_with fail
      go_ret
      exact ⟨rfl, hfin⟩
end Go.Proofs.YtidihdiffiffmaaGreatDoor
