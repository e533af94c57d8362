/-
  P1304: who may is over the node's label, or at it, and all directories on the way may be seen: the law's walk. Written by mk_monsecure.py.
-/
import Derived.Test.YtapgjdmnlkedgaaDoorWMonAsksWalk
import Derived.Test.YtapgjdmnlkedgaaDoorPt3
namespace Go.Proofs.YtapgjdmnlkedgaaDoor
open Go.RowKit
set_option maxRecDepth 8000
set_option linter.unusedSimpArgs false
set_option linter.unusedVariables false

def strM : Value → Nat
  | .string s => s.size
  | _ => 0
theorem pathM_size_lt {ms : List ByteArray} {n : ByteArray} (h1 : 1 ≤ n.size) : (pathB ms).size < (pathB (ms ++ [n])).size := by
  have hne : ms ++ [n] ≠ [] := by simp
  rw [← bytes_len, ← bytes_len, pathB_bytes hne, body_append, List.length_append]
  have h2 : (body [n]).length = 1 + n.size := by simp [body, bytes_len]; omega
  rw [h2]
  by_cases hm : ms = []
  · rw [hm, pathB_nil]
    show 1 < 0 + (1 + n.size)
    omega
  · rw [pathB_bytes hm]
    omega
theorem parentM_lt {p : ByteArray} (h : checkOf p = 0) : (parentOf p).size < p.size := by
  obtain ⟨ns, hn, e, _⟩ := check_path h
  by_cases hs : pathB ns = slashS
  · rw [e, hs, ← pathB_nil, parent_root]
    decide
  · obtain ⟨ms, n, rfl, h1, h2, h3, h4⟩ := names_split hn hs
    rw [e, h1]
    exact pathM_size_lt (name_size h4).1
theorem grsA_load (w : World) (y : Addr) (v : Value) (h : w.cell? y = some v) : (Instr.loadAt 31 (.pointer (some y))).run Tryd.prog w = .ok v w := by
  have h1 := Tryd.underlying31
  go_simp
/-- What follows where it may: by labels and the list. -/
theorem may_sec {L : List Nod} {u : ByteArray} {t : Lab} {p : ByteArray} {m : Int} {x : Nod} (ht : GL t) (hx : findN L p = some x) (h1 : 1 ≤ m) (h7 : m ≤ 7) (h : mayE L u t p m = 0) : rov t x.label = true ∧ ((bits .and .i64 m 2 != 0) = true → labEq t x.label = true) ∧ (bits .and .i64 (modesL x.acl u) m != m) = false := by
  rw [may_in h1 h7] at h
  by_cases hs : seeE L t p = 0
  · rw [if_neg (by simp [hs]), hx] at h
    obtain ⟨a, b, c⟩ := mod_split.1 h
    refine ⟨?_, b, by simp only [Option.getD_some] at c; rw [c]; simp⟩
    obtain ⟨k, rfl⟩ := fin8 (show 0 ≤ m by omega) h7
    have q : ∀ k : Fin 8, 1 ≤ k.val → (bits .and .i64 ((k.val : Nat) : Int) 5 != 0) = true ∨ (bits .and .i64 ((k.val : Nat) : Int) 2 != 0) = true := by decide +kernel
    rcases q k (by omega) with q | q
    · exact a q
    · have hb : t = x.label := (labEq_iff _ _).1 (b q)
      rw [← hb]
      exact rov_self ht
  · rw [if_pos hs] at h
    exact absurd h hs
set_option maxRecDepth 20000 in
set_option maxHeartbeats 8000000 in
theorem monitorSecure_walk (ta : Option Addr) (ct : Nat) (ts : List Lab) (ma : Option Addr) (mc : Nat) (ms : List PM) (who : Int) (at_ : Lab) (pick mode : Int) (hpk : -9223372036854775808 ≤ pick ∧ pick ≤ 9223372036854775807) (w : World) (hlr : RowAt 4 lrow w ta ts) (hmr : RowM w ma ms) (hV : MaxV w) :
    Calls Tryd.prog 4 #[.slice ta ts.length ct, .slice ma ms.length mc, .int .i64 who, at_.v, .int .i64 pick, .int .i64 mode] w fun e w' => e = .returned (.bool true) ∧ Below w.heap.size w w' := by
  have hund := Tryd.underlying36
  have hundL := Tryd.underlying25
  have hszN : (Tryd.prog.info? 36).map (·.size) = some 16 := by kernel_rfl
  have hsl : (Tryd.prog.info? 25).map (·.size) = some 4 := by kernel_rfl
  have kg := fun W (q1 : RowAt 4 lrow W ta ts) (q2 : RowM W ma ms) => growB_any ta ct ts ma mc ms W q1 q2
  obtain ⟨nt, hnt⟩ : ∃ nt, ts.length = nt := ⟨_, rfl⟩
  obtain ⟨nm, hnm⟩ : ∃ nm, ms.length = nm := ⟨_, rfl⟩
  rw [hnt, hnm] at kg
  rw [hnt, hnm]
  clear hnt hnm
  have hb8 := blkl_alloc w (lab4 at_).toArray 25
  have hB0 := alloc_below w (.cells (lab4 at_).toArray 25)
  replace hb8 : BlkL w.heap.size (lab4 at_) (w.alloc (.cells (lab4 at_).toArray 25)) := hb8
  go_enter Tryd.func4, Tryd.ntmps4
  go_wp2_with fail
  generalize w.alloc (.cells #[.int .i64 at_.s, .int .i64 at_.c, .int .i64 at_.i, .int .i64 at_.k] 25) = W0 at *
  refine (mknown_any monOk W0 (hV.below hB0)).mono ?_
  rintro e W1 ⟨rfl, hB1⟩
  replace hb8 := stab_blk _ _ _ _ hb8 hB1
  have hB01 := Below.then hB0 hB1
  go_wp2_with fail
  refine (kg W1 (hlr.below lab_ok.len hB01) (hmr.below hB01)).mono ?_
  rintro e W2 ⟨v, l, rfl, ho, hat, hnm, hB2, hA⟩
  obtain ⟨a, c, rfl, hG⟩ := gt_of ho hat hnm hA
  have hB02 := Below.then hB01 hB2
  have hbB : w.heap.size < W1.heap.size := hb8.2
  replace hb8 := stab_blk _ _ _ _ hb8 hB2
  have hlen := hG.len
  have hpos := hG.pos
  clear kg ho hat hnm hA hB2 hlr hmr hB0 hB1 hB01
  generalize W1.heap.size = B1 at *
  obtain ⟨n, hn⟩ : ∃ n, l.length = n := ⟨_, rfl⟩
  rw [hn] at hlen hpos ⊢
  replace hn : Aside (l.length = n) := hn
  have hmod : ∀ q : Int, ∃ j : Nat, q % (n : Int) = (j : Int) ∧ j < n := fun q => ⟨(q % (n : Int)).toNat, by have := Int.emod_nonneg q (show (n : Int) ≠ 0 by omega); omega, by have h1 := Int.emod_nonneg q (show (n : Int) ≠ 0 by omega); have h2 := Int.emod_lt_of_pos q (show 0 < (n : Int) by omega); omega⟩
  have hr8 := hb8.range
  go_wp2_with (first | (refine wpList_load_row rfl _ rfl w.heap.size rfl (lab4 at_) hr8 hundL rfl hsl ?_) | fail)
  refine (good_any at_ W2).mono ?_
  rintro e W3 ⟨rfl, hB3⟩
  replace hb8 := stab_blk _ _ _ _ hb8 hB3
  have hG3 := hG.below hB3
  have hB03 := Below.then hB02 hB3
  clear hr8 hG hB02 hB3
  have hm7 : 0 ≤ mode % 7 ∧ mode % 7 < 7 := ⟨Int.emod_nonneg _ (by decide), Int.emod_lt_of_pos _ (by decide)⟩
  have kw7 := w13_any mode 7 (by decide) (by decide) W3
  obtain ⟨m0, hm0⟩ : ∃ m0, mode % 7 = m0 := ⟨_, rfl⟩
  rw [hm0] at hm7 kw7
  clear hm0
  go_wp2_with fail
  refine kw7.mono ?_
  rintro e w' ⟨rfl, hw'⟩
  replace hw' := hw'.symm
  subst hw'
  clear kw7
  obtain ⟨W4, hW4, hth4, hb4, hk4, hB4⟩ := turn_lab (goodL at_) hb8
  have hG4 := hG3.turn (W' := W4) (fun k hk => hk4 k (by omega))
  have hB04 := hB4 _ _ (Nat.le_refl _) hB03
  have hGg := good_GL at_
  clear hb8 hG3 hB03 hk4 hB4
  go_upto_region 5 with (first | (refine wpList_store_row rfl _ _ rfl w.heap.size rfl (lab4 (goodL at_)) rfl hth4 hsl (lab4_one _) hW4 ?_) | fail)
  clear hth4 hW4
  obtain ⟨g, hg⟩ : ∃ g, goodL at_ = g := ⟨_, rfl⟩
  rw [hg] at hb4 hGg
  clear hg
  obtain ⟨y, rfl⟩ : ∃ y, a = some y := hG4.row.some_ (List.getElem?_eq_getElem (by rw [hn.out]; exact hpos))
  (try simp only [Act.put])
  go_upto_if 32 with fail
  go_cut [5] from 20 (fun s5 wc => ∃ m : Int, 1 ≤ m ∧ m ≤ 7 ∧ s5 = .int .i64 m ∧ ∃ t : Lab, GL t ∧ GT B1 wc (some y) c l ts (ms.map (·.m)) ∧ BlkL w.heap.size (lab4 t) wc ∧ Below w.heap.size w wc)
  case first =>
    cases hq : (pick.tmod 2 == 0)
    · go_wp2_with fail
      go_meet
      exact ⟨1 + m0, by omega, by omega, rfl, g, hGg, hG4, hb4, hB04⟩
    · obtain ⟨k2, hk2, hkn2⟩ := hmod (pick.tdiv 2)
      obtain ⟨x2, hx2⟩ : ∃ x2, l[k2]? = some x2 := ⟨_, List.getElem?_eq_getElem (by rw [hn.out]; exact hkn2)⟩
      have hcl := cells_lab (hG4.row.r.at pn_len hx2)
      have hGt := hG4.lab (List.mem_of_getElem? hx2)
      obtain ⟨t, ht⟩ : ∃ t, x2.n.label = t := ⟨_, rfl⟩
      rw [ht] at hcl hGt
      have kw := w13_any (pick.tdiv 2) (n : Int) (by omega) (by omega) W4
      rw [hk2] at kw
      obtain ⟨W5, hW5, hth5, hb5, hk5, hB5⟩ := turn_lab t hb4
      have hG5 := hG4.turn (W' := W5) (fun k hk => hk5 k (by omega))
      have hB05 := hB5 _ _ (Nat.le_refl _) hB04
      clear hx2 hk2 ht
      go_wp2_with fail
      refine kw.mono ?_
      rintro e w' ⟨rfl, hw'⟩
      replace hw' := hw'.symm
      subst hw'
      go_wp2_with (first | (refine wpList_load_at rfl _ rfl ⟨(y.add (k2 * 16)).block, (y.add (k2 * 16)).off + 2, none⟩ rfl (labM t) hcl hundL rfl hsl ?_) | (refine wpList_store_row rfl _ _ rfl w.heap.size rfl (lab4 t) rfl hth5 hsl (lab4_one _) hW5 ?_) | fail)
      go_meet
      exact ⟨1 + m0, by omega, by omega, rfl, t, hGt, hG5, hb5, hB05⟩
  case rest =>
  clear hG4 hb4 hB04 hGg hm7 hmod hpk
  obtain ⟨m, hm1, hm7, rfl, t, hGt, hGc, hbc, hBc⟩ := hcut
  obtain ⟨u, hu⟩ : ∃ u, whoS who = u := ⟨_, rfl⟩
  have kwho := fun W => who_any who W
  rw [hu] at kwho
  clear hu
  have hF := hGc.fine
  have hT := hGc.tree
  have hO : OrdP l := ordP.1 hT.ord
  have kmay := fun (p : ByteArray) (hp : p.size ≤ 1000) W (q : GT B1 W (some y) c l ts (ms.map (·.m))) (q2 : MaxV W) => mmay_any (some y) c l u t p m hF hGt hp W q.row q2
  have kf := fun W q (r : RowN W (some y) l) => rfindT_any (some y) c l q (by have := hF.len; omega) W r
  rw [hn.out] at kmay kf
  have hLG : ∀ x ∈ l, GL x.n.label := fun x hx => hGc.lab hx
  have hLp : ∀ x ∈ l, x.n.path.size ≤ 78 := fun x hx => hGc.path hx
  go_wp2_with fail
  go_loopw [14] (fun t14 wr => ∃ i : Nat, i ≤ n ∧ t14 = .int .i64 (i : Int) ∧ GT B1 wr (some y) c l ts (ms.map (·.m)) ∧ BlkL w.heap.size (lab4 t) wr ∧ Below w.heap.size w wr) (fun t14 _ => n - (Go.RowKit.intOf t14).toNat)
  case atStart => exact ⟨0, by omega, rfl, hGc, hbc, hBc⟩
  case round =>
  clear hGc hbc hBc
  obtain ⟨i, hi, rfl, hG, hbt, hB⟩ := hrel
  by_cases hlt : i < n
  rotate_left
  · obtain rfl : i = n := by omega
    go_wp2_with fail
    go_ret
    exact ⟨rfl, hB⟩
  obtain ⟨Z, hZ⟩ : ∃ Z, Z = wr := ⟨_, rfl⟩
  subst hZ
  obtain ⟨x, hx⟩ : ∃ x, l[i]? = some x := ⟨_, List.getElem?_eq_getElem (by rw [hn.out]; exact hlt)⟩
  have hxm := List.mem_of_getElem? hx
  have hxn : x.n ∈ namesP l := List.mem_map.2 ⟨x, hxm, rfl⟩
  have hcx : ∀ W, Below Z.heap.size Z W → W.cell? (y.add (i * 16)) = some (.string x.n.path) := fun W q => ((hG.below q).row.r.at pn_len hx) 0 _ rfl
  have hfx := find_mem hT.ord hxn
  have hps := hLp x hxm
  have hw0 := hT.way hxn
  have hsec := fun q => may_sec (u := u) hGt hfx hm1 hm7 q
  have km := kmay x.n.path (by omega)
  have htold : toldN (namesP l) x.n.path 0 = x.n := by unfold toldN; rw [if_pos rfl, hfx]; rfl
  obtain ⟨E, hE⟩ : ∃ E, mayE (namesP l) u t x.n.path m = E := ⟨_, rfl⟩
  rw [hE] at km hsec
  have i1 : (i : Int) < (n : Int) := by omega
  obtain ⟨p, hp⟩ : ∃ p, x.n.path = p := ⟨_, rfl⟩
  rw [hp] at km hcx htold hps
  replace hp : Aside (x.n.path = p) := hp
  clear hE hx hfx kmay
  go_upto_region 10 with fail
  go_cut [15, 16] from 48 to 122 (fun s15 s16 wc => s16 = .int .i64 E ∧ ∃ (f : PN) (bn : Nat), s15 = .pointer (some ⟨bn, 0, none⟩) ∧ BlkL bn f.cs wc ∧ f.n = toldN (namesP l) p E ∧ f.At wc ∧ Below Z.heap.size Z wc)
  case first =>
    have hS0 : Below Z.heap.size Z Z.drew := (Below.refl _ _).drew
    refine wp_region_held_drew (S := (fun W => Below Z.heap.size Z W)) (by kernel_rfl) (by exact hS0) ?_
    intro hHeld
    generalize Z.drew = w0 at *
    refine wpAnyH_take (i := 0) (v := ?_) (by simp only [gA, gB, gC]; rfl) (by kernel_rfl) (by kernel_rfl) (by kernel_rfl) (by exact fun _ _ _ h => h) (Or.inl ⟨by rfl, ?_⟩) (by assumption) ?_; rotate_left; (focus (intro w hSw; (try dsimp only at hSw); go_simp; try with_reducible rfl)); (try simp only [Act.put, sA, sB, sC])
    refine wpAnyH_take (i := 1) (v := ?_) (by simp only [gA, gB, gC]; rfl) (by kernel_rfl) (by kernel_rfl) (by kernel_rfl) (by exact fun _ _ _ h => h) (Or.inl ⟨by rfl, ?_⟩) (by assumption) ?_; rotate_left; (focus (intro w hSw; (try dsimp only at hSw); go_simp; try with_reducible rfl)); (try simp only [Act.put, sA, sB, sC])
    refine wpAnyH_take (i := 3) (v := _) (by simp only [gA, gB, gC]; rfl) (by kernel_rfl) (by kernel_rfl) (by kernel_rfl) (by exact fun _ _ _ h => h) (yields_row (by rfl) _ rfl w.heap.size rfl (lab4 t) (fun _ q => (stab_blk _ _ _ _ hbt q).range) hundL rfl hsl) (by assumption) ?_; (try simp only [Act.put, sA, sB, sC])
    refine wpAnyH_take (i := 5) (v := ?_) (by simp only [gA, gB, gC]; rfl) (by kernel_rfl) (by kernel_rfl) (by kernel_rfl) (by exact fun _ _ _ h => h) (Or.inl ⟨by rfl, ?_⟩) (by assumption) ?_; rotate_left; (focus (intro w hSw; (try dsimp only at hSw); go_simp; try with_reducible rfl)); (try simp only [Act.put, sA, sB, sC])
    refine wpAnyH_take (i := 6) (v := ?_) (by simp only [gA, gB, gC]; rfl) (by kernel_rfl) (by kernel_rfl) (by kernel_rfl) (by exact fun _ _ _ h => h) (Or.inl ⟨by rfl, ?_⟩) (by assumption) ?_; rotate_left; (focus (intro w hSw; (try dsimp only at hSw); go_simp; try with_reducible rfl)); (try simp only [Act.put, sA, sB, sC])
    refine wpAnyH_take (i := 7) (v := ?_) (by simp only [gA, gB, gC]; rfl) (by kernel_rfl) (by kernel_rfl) (by kernel_rfl) (by exact fun _ _ _ h => h) (Or.inl ⟨by rfl, ?_⟩) (by assumption) ?_; rotate_left; (focus (intro w hSw; (try dsimp only at hSw); go_simp; try with_reducible rfl)); (try simp only [Act.put, sA, sB, sC])
    refine wpAnyH_take (i := 8) (v := ?_) (by simp only [gA, gB, gC]; rfl) (by kernel_rfl) (by kernel_rfl) (by kernel_rfl) (by exact fun _ _ _ h => h) (Or.inl ⟨by rfl, ?_⟩) (by assumption) ?_; rotate_left; (focus (intro w hSw; (try dsimp only at hSw); go_simp; try with_reducible rfl)); (try simp only [Act.put, sA, sB, sC])
    refine wpAnyH_take (i := 9) (v := _) (by simp only [gA, gB, gC]; rfl) (by kernel_rfl) (by kernel_rfl) (by kernel_rfl) (by exact fun _ _ _ h => h) (yields_cell (by rfl) _ rfl (y.add (i * 16)) rfl (.string p) hcx strA_load) (by assumption) ?_; (try simp only [Act.put, sA, sB, sC])
    refine wpAnyH_take (i := 10) (v := ?_) (by simp only [gA, gB, gC]; rfl) (by kernel_rfl) (by kernel_rfl) (by kernel_rfl) (by exact fun _ _ _ h => h) (Or.inl ⟨by rfl, ?_⟩) (by assumption) ?_; rotate_left; (focus (intro w hSw; (try dsimp only at hSw); go_simp; try with_reducible rfl)); (try simp only [Act.put, sA, sB, sC])
    refine wpAnyH_ready (rs := [2, 15]) (by kernel_rfl) (by simp) ?_
    refine AllReadyH.cons (by simp only [gA, gB, gC]; rfl) (fun K hK => ?_) ?_
    · go_simp
      go_at_call 14
      refine (kwho w0).mono ?_
      rintro e w1 ⟨rfl, hb⟩
      have hS1 := Below.then hS0 hb
      refine hK.out _ _ (hS1) ?_
      clear hHeld hK
      intro hHeld
      clear hb
      (try simp only [Act.put, sA, sB, sC])
      refine wpAnyH_take (i := 4) (v := ?_) (by simp only [gA, gB, gC]; rfl) (by kernel_rfl) (by kernel_rfl) (by kernel_rfl) (by exact fun _ _ _ h => h) (Or.inl ⟨by rfl, ?_⟩) (by assumption) ?_; rotate_left; (focus (intro w hSw; (try dsimp only at hSw); go_simp; try with_reducible rfl)); (try simp only [Act.put, sA, sB, sC])
      refine wpAnyH_ready (rs := [11, 15]) (by kernel_rfl) (by simp) ?_
      refine AllReadyH.cons (by simp only [gA, gB, gC]; rfl) (fun K hK => ?_) ?_
      · go_simp
        go_at_call 17
        refine (km w1 (hG.below hS1) (hV.below (Below.then hB hS1))).mono ?_
        rintro e w2 ⟨f, rfl, hfn, hfa2, hb, hfo⟩
        have hS2 := Below.then hS1 hb
        refine hK.out _ _ (hS2) ?_
        clear hHeld hK
        intro hHeld
        clear hb
        (try simp only [Act.put, sA, sB, sC])
        refine wpAnyH_take (i := 12) (v := ?_) (by simp only [gA, gB, gC]; rfl) (by kernel_rfl) (by kernel_rfl) (by kernel_rfl) (by exact fun _ _ _ h => h) (Or.inl ⟨by rfl, ?_⟩) (by assumption) ?_; rotate_left; (focus (intro w hSw; (try dsimp only at hSw); go_simp; try with_reducible rfl)); (try simp only [Act.put, sA, sB, sC])
        refine wpAnyH_take (i := 13) (v := ?_) (by simp only [gA, gB, gC]; rfl) (by kernel_rfl) (by kernel_rfl) (by kernel_rfl) (by exact fun _ _ _ h => h) (Or.inl ⟨by rfl, ?_⟩) (by assumption) ?_; rotate_left; (focus (intro w hSw; (try dsimp only at hSw); go_simp; try with_reducible rfl)); (try simp only [Act.put, sA, sB, sC])
        refine wpAnyH_take (i := 14) (v := ?_) (by simp only [gA, gB, gC]; rfl) (by kernel_rfl) (by kernel_rfl) (by kernel_rfl) (by exact fun _ _ _ h => h) (Or.inl ⟨by rfl, ?_⟩) (by assumption) ?_; rotate_left; (focus (intro w hSw; (try dsimp only at hSw); go_simp; try with_reducible rfl)); (try simp only [Act.put, sA, sB, sC])
        refine wpAnyH_ready (rs := [15]) (by kernel_rfl) (by simp) ?_
        refine AllReadyH.cons (by simp only [gA, gB, gC]; rfl) (fun K hK => ?_) AllReadyH.nil
        go_simp
        refine hK.out _ _ (Below.then hS2 (alloc_below _ _)) ?_
        clear hHeld hK
        intro hHeld
        have hn3 := blkl_alloc w2 zN 36
        have hbnZ : Z.heap.size ≤ w2.heap.size := hS2.size
        have hS3 := Below.then hS2 (alloc_below w2 (.cells zN 36))
        have hfa3 := hfa2.below (alloc_below w2 (.cells zN 36))
        have hoff := hfo.off (g := w2.heap.size) (.inr (Nat.le_refl _))
        clear hfo
        generalize hwx : w2.alloc (.cells zN 36) = w3 at *
        clear hwx
        generalize w2.heap.size = bn at *
        (try simp only [Act.put, sA, sB, sC])
        refine wpAnyH_ready (rs := [16]) (by kernel_rfl) (by simp) ?_
        refine AllReadyH.cons (by simp only [gA, gB, gC]; rfl) (fun K hK => ?_) AllReadyH.nil
        obtain ⟨w4, hwz, hthz, hn4, hS4⟩ := put_mid hn3 0 f.cs (by rw [pn_len]; decide) (by decide) hS3 hbnZ
        replace hn4 : BlkL bn f.cs w4 := hn4
        have hfa4 : f.At w4 := by rw [← hwz]; exact hfa3.off hoff 0 f.cs
        refine step_store_part rfl _ _ rfl bn 0 rfl f.cs rfl hthz (by rw [pn_len]; exact hszN) (pn_one f) hwz ?_
        (try simp only [Act.put, sA, sB, sC])
        refine hK.out _ _ (hS4) ?_
        clear hHeld hK
        intro hHeld
        (try simp only [Act.put, sA, sB, sC])
        refine wpAnyH_take (i := 17) (v := ?_) (by simp only [gA, gB, gC]; rfl) (by kernel_rfl) (by kernel_rfl) (by kernel_rfl) (by exact fun _ _ _ h => h) (Or.inl ⟨by rfl, ?_⟩) (by assumption) ?_; rotate_left; (focus (intro w hSw; (try dsimp only at hSw); go_simp; try with_reducible rfl)); (try simp only [Act.put, sA, sB, sC])
        refine wpAnyH_done (by kernel_rfl) ?_ _
        go_wp2_with fail
        go_meet
        exact ⟨rfl, f, bn, rfl, hn4, hfn, hfa4, hS4⟩
      refine AllReadyH.cons (by simp only [gA, gB, gC]; rfl) (fun K hK => ?_) AllReadyH.nil
      go_simp
      refine hK.out _ _ (Below.then hS1 (alloc_below _ _)) ?_
      clear hHeld hK
      intro hHeld
      have hn2 := blkl_alloc w1 zN 36
      have hbnZ : Z.heap.size ≤ w1.heap.size := hS1.size
      have hS2 := Below.then hS1 (alloc_below w1 (.cells zN 36))
      generalize hwx : w1.alloc (.cells zN 36) = w2 at *
      clear hwx
      generalize w1.heap.size = bn at *
      (try simp only [Act.put, sA, sB, sC])
      refine wpAnyH_ready (rs := [11]) (by kernel_rfl) (by simp) ?_
      refine AllReadyH.cons (by simp only [gA, gB, gC]; rfl) (fun K hK => ?_) AllReadyH.nil
      go_simp
      go_at_call 17
      refine (km w2 (hG.below hS2) (hV.below (Below.then hB hS2))).mono ?_
      rintro e w3 ⟨f, rfl, hfn, hfa3, hb, hfo⟩
      have hoff := hfo.off (g := bn) (.inl hn2.2)
      clear hfo
      have hS3 := Below.then hS2 hb
      have hn3 := stab_blk _ _ _ _ hn2 hb
      refine hK.out _ _ (hS3) ?_
      clear hHeld hK
      intro hHeld
      clear hb
      (try simp only [Act.put, sA, sB, sC])
      refine wpAnyH_take (i := 12) (v := ?_) (by simp only [gA, gB, gC]; rfl) (by kernel_rfl) (by kernel_rfl) (by kernel_rfl) (by exact fun _ _ _ h => h) (Or.inl ⟨by rfl, ?_⟩) (by assumption) ?_; rotate_left; (focus (intro w hSw; (try dsimp only at hSw); go_simp; try with_reducible rfl)); (try simp only [Act.put, sA, sB, sC])
      refine wpAnyH_take (i := 13) (v := ?_) (by simp only [gA, gB, gC]; rfl) (by kernel_rfl) (by kernel_rfl) (by kernel_rfl) (by exact fun _ _ _ h => h) (Or.inl ⟨by rfl, ?_⟩) (by assumption) ?_; rotate_left; (focus (intro w hSw; (try dsimp only at hSw); go_simp; try with_reducible rfl)); (try simp only [Act.put, sA, sB, sC])
      refine wpAnyH_take (i := 14) (v := ?_) (by simp only [gA, gB, gC]; rfl) (by kernel_rfl) (by kernel_rfl) (by kernel_rfl) (by exact fun _ _ _ h => h) (Or.inl ⟨by rfl, ?_⟩) (by assumption) ?_; rotate_left; (focus (intro w hSw; (try dsimp only at hSw); go_simp; try with_reducible rfl)); (try simp only [Act.put, sA, sB, sC])
      refine wpAnyH_ready (rs := [16]) (by kernel_rfl) (by simp) ?_
      refine AllReadyH.cons (by simp only [gA, gB, gC]; rfl) (fun K hK => ?_) AllReadyH.nil
      obtain ⟨w4, hwz, hthz, hn4, hS4⟩ := put_mid hn3 0 f.cs (by rw [pn_len]; decide) (by decide) hS3 hbnZ
      replace hn4 : BlkL bn f.cs w4 := hn4
      have hfa4 : f.At w4 := by rw [← hwz]; exact hfa3.off hoff 0 f.cs
      refine step_store_part rfl _ _ rfl bn 0 rfl f.cs rfl hthz (by rw [pn_len]; exact hszN) (pn_one f) hwz ?_
      (try simp only [Act.put, sA, sB, sC])
      refine hK.out _ _ (hS4) ?_
      clear hHeld hK
      intro hHeld
      (try simp only [Act.put, sA, sB, sC])
      refine wpAnyH_take (i := 17) (v := ?_) (by simp only [gA, gB, gC]; rfl) (by kernel_rfl) (by kernel_rfl) (by kernel_rfl) (by exact fun _ _ _ h => h) (Or.inl ⟨by rfl, ?_⟩) (by assumption) ?_; rotate_left; (focus (intro w hSw; (try dsimp only at hSw); go_simp; try with_reducible rfl)); (try simp only [Act.put, sA, sB, sC])
      refine wpAnyH_done (by kernel_rfl) ?_ _
      go_wp2_with fail
      go_meet
      exact ⟨rfl, f, bn, rfl, hn4, hfn, hfa4, hS4⟩
    refine AllReadyH.cons (by simp only [gA, gB, gC]; rfl) (fun K hK => ?_) AllReadyH.nil
    go_simp
    refine hK.out _ _ (Below.then hS0 (alloc_below _ _)) ?_
    clear hHeld hK
    intro hHeld
    have hn1 := blkl_alloc w0 zN 36
    have hbnZ : Z.heap.size ≤ w0.heap.size := hS0.size
    have hS1 := Below.then hS0 (alloc_below w0 (.cells zN 36))
    generalize hwx : w0.alloc (.cells zN 36) = w1 at *
    clear hwx
    generalize w0.heap.size = bn at *
    (try simp only [Act.put, sA, sB, sC])
    refine wpAnyH_ready (rs := [2]) (by kernel_rfl) (by simp) ?_
    refine AllReadyH.cons (by simp only [gA, gB, gC]; rfl) (fun K hK => ?_) AllReadyH.nil
    go_simp
    go_at_call 14
    refine (kwho w1).mono ?_
    rintro e w2 ⟨rfl, hb⟩
    have hS2 := Below.then hS1 hb
    have hn2 := stab_blk _ _ _ _ hn1 hb
    refine hK.out _ _ (hS2) ?_
    clear hHeld hK
    intro hHeld
    clear hb
    (try simp only [Act.put, sA, sB, sC])
    refine wpAnyH_take (i := 4) (v := ?_) (by simp only [gA, gB, gC]; rfl) (by kernel_rfl) (by kernel_rfl) (by kernel_rfl) (by exact fun _ _ _ h => h) (Or.inl ⟨by rfl, ?_⟩) (by assumption) ?_; rotate_left; (focus (intro w hSw; (try dsimp only at hSw); go_simp; try with_reducible rfl)); (try simp only [Act.put, sA, sB, sC])
    refine wpAnyH_ready (rs := [11]) (by kernel_rfl) (by simp) ?_
    refine AllReadyH.cons (by simp only [gA, gB, gC]; rfl) (fun K hK => ?_) AllReadyH.nil
    go_simp
    go_at_call 17
    refine (km w2 (hG.below hS2) (hV.below (Below.then hB hS2))).mono ?_
    rintro e w3 ⟨f, rfl, hfn, hfa3, hb, hfo⟩
    have hoff := hfo.off (g := bn) (.inl hn2.2)
    clear hfo
    have hS3 := Below.then hS2 hb
    have hn3 := stab_blk _ _ _ _ hn2 hb
    refine hK.out _ _ (hS3) ?_
    clear hHeld hK
    intro hHeld
    clear hb
    (try simp only [Act.put, sA, sB, sC])
    refine wpAnyH_take (i := 12) (v := ?_) (by simp only [gA, gB, gC]; rfl) (by kernel_rfl) (by kernel_rfl) (by kernel_rfl) (by exact fun _ _ _ h => h) (Or.inl ⟨by rfl, ?_⟩) (by assumption) ?_; rotate_left; (focus (intro w hSw; (try dsimp only at hSw); go_simp; try with_reducible rfl)); (try simp only [Act.put, sA, sB, sC])
    refine wpAnyH_take (i := 13) (v := ?_) (by simp only [gA, gB, gC]; rfl) (by kernel_rfl) (by kernel_rfl) (by kernel_rfl) (by exact fun _ _ _ h => h) (Or.inl ⟨by rfl, ?_⟩) (by assumption) ?_; rotate_left; (focus (intro w hSw; (try dsimp only at hSw); go_simp; try with_reducible rfl)); (try simp only [Act.put, sA, sB, sC])
    refine wpAnyH_take (i := 14) (v := ?_) (by simp only [gA, gB, gC]; rfl) (by kernel_rfl) (by kernel_rfl) (by kernel_rfl) (by exact fun _ _ _ h => h) (Or.inl ⟨by rfl, ?_⟩) (by assumption) ?_; rotate_left; (focus (intro w hSw; (try dsimp only at hSw); go_simp; try with_reducible rfl)); (try simp only [Act.put, sA, sB, sC])
    refine wpAnyH_ready (rs := [16]) (by kernel_rfl) (by simp) ?_
    refine AllReadyH.cons (by simp only [gA, gB, gC]; rfl) (fun K hK => ?_) AllReadyH.nil
    obtain ⟨w4, hwz, hthz, hn4, hS4⟩ := put_mid hn3 0 f.cs (by rw [pn_len]; decide) (by decide) hS3 hbnZ
    replace hn4 : BlkL bn f.cs w4 := hn4
    have hfa4 : f.At w4 := by rw [← hwz]; exact hfa3.off hoff 0 f.cs
    refine step_store_part rfl _ _ rfl bn 0 rfl f.cs rfl hthz (by rw [pn_len]; exact hszN) (pn_one f) hwz ?_
    (try simp only [Act.put, sA, sB, sC])
    refine hK.out _ _ (hS4) ?_
    clear hHeld hK
    intro hHeld
    (try simp only [Act.put, sA, sB, sC])
    refine wpAnyH_take (i := 17) (v := ?_) (by simp only [gA, gB, gC]; rfl) (by kernel_rfl) (by kernel_rfl) (by kernel_rfl) (by exact fun _ _ _ h => h) (Or.inl ⟨by rfl, ?_⟩) (by assumption) ?_; rotate_left; (focus (intro w hSw; (try dsimp only at hSw); go_simp; try with_reducible rfl)); (try simp only [Act.put, sA, sB, sC])
    refine wpAnyH_done (by kernel_rfl) ?_ _
    go_wp2_with fail
    go_meet
    exact ⟨rfl, f, bn, rfl, hn4, hfn, hfa4, hS4⟩
  case rest =>
  obtain ⟨rfl, f, bn, rfl, hbn, hfn, hfa, hd⟩ := hcut
  obtain ⟨Y, hY⟩ : ∃ Y, Y = wc := ⟨_, rfl⟩
  subst hY
  replace hG := hG.below hd
  replace hbt := stab_blk _ _ _ _ hbt hd
  replace hB := Below.then hB hd
  clear hcx km hd
  by_cases hs0 : E = 0
  rotate_left
  · go_wp2_with fail
    exact ⟨⟨i + 1, by omega, by simp, hG, hbt, hB⟩, by simp [Go.RowKit.intOf]; omega⟩
  subst hs0
  obtain ⟨hrov, hle, hmo⟩ := hsec rfl
  have hfx : f.n = x.n := hfn.trans htold
  clear hsec htold hfn
  have hz6 : ∀ W, Below Y.heap.size Y W → W.cell? ⟨bn, 6, none⟩ = some (.slice f.aa f.n.acl.length f.ca) := fun W q => ((stab_blk _ _ _ _ hbn q).1 6 _ rfl).1
  have hcl : ∀ W, Below Y.heap.size Y W → CellsAt W ⟨bn, 2, none⟩ (labM x.n.label) := fun W q => by have := nd_lab (stab_blk _ _ _ _ hbn q); rw [hfx] at this; exact this
  have hAx := hF.acl x hxm
  have km := fun W (q : Below Y.heap.size Y W) => rmodes_any W f.aa f.ca f.n.acl u (by rw [hfx]; exact (acl_sorted hAx).1) (hfa.below q).g (by rw [hfx]; exact (acl_sorted hAx).2)
  obtain ⟨MM, hMM⟩ : ∃ MM, modesL x.n.acl u = MM := ⟨_, rfl⟩
  rw [hMM] at hmo
  rw [show modesL f.n.acl u = MM by rw [hfx]; exact hMM] at km
  obtain ⟨AM, hAM⟩ : ∃ AM, bits .and .i64 MM m = AM := ⟨_, rfl⟩
  rw [hAM] at hmo
  obtain ⟨A2, hA2⟩ : ∃ A2, bits .and .i64 m 2 = A2 := ⟨_, rfl⟩
  rw [hA2] at hle
  have ko := fun W => rlover_any t x.n.label W
  rw [hrov] at ko
  obtain ⟨lb, hlb⟩ : ∃ lb, x.n.label = lb := ⟨_, rfl⟩
  have hnq : ∀ X, (binOp .neq 25 (.agg (labM t).toArray) (.agg (labM x.n.label).toArray)).run Tryd.prog X = .ok (.bool (!labEq t x.n.label)) X := run_neq_lab t x.n.label
  have hGx := hLG x hxm
  have hz0 : Y.cell? ⟨bn, 0, none⟩ = some (.string x.n.path) := by have := (hbn.1 0 _ rfl).1; rw [hfx] at this; exact this
  rw [hp.out] at hz0 hw0
  rw [hlb] at hcl ko hnq hle
  obtain ⟨fl, hfl⟩ : ∃ fl, f.n.acl.length = fl := ⟨_, rfl⟩
  rw [hfl] at hz6 km
  replace hlb : Aside (x.n.label = lb) := hlb
  replace hrov : Aside (rov t x.n.label = true) := hrov
  clear hfx hMM hfl hAx
  go_upto_region 12 with fail
  go_cut [95] from 63 to 122 (fun s95 wc => s95 = .bool false ∧ Below Y.heap.size Y wc)
  case first =>
    have hS0 : Below Y.heap.size Y Y.drew := (Below.refl _ _).drew
    cases hq2 : (A2 != 0)
    · clear hle hnq
      refine wp_region_held_drew (S := (fun W => Below Y.heap.size Y W)) (by kernel_rfl) (by exact hS0) ?_
      intro hHeld
      generalize Y.drew = w0 at *
      refine wpAnyH_take (i := 0) (v := _) (by simp only [gA, gB, gC]; rfl) (by kernel_rfl) (by kernel_rfl) (by kernel_rfl) (by exact fun _ _ _ h => h) (yields_row (by rfl) _ rfl w.heap.size rfl (lab4 t) (fun _ q => (stab_blk _ _ _ _ hbt q).range) hundL rfl hsl) (by assumption) ?_; (try simp only [Act.put, sA, sB, sC, hA2, hq2, hAM, hmo, Bool.not_true, Bool.not_false])
      refine wpAnyH_take (i := 1) (v := ?_) (by simp only [gA, gB, gC]; rfl) (by kernel_rfl) (by kernel_rfl) (by kernel_rfl) (by exact fun _ _ _ h => h) (Or.inl ⟨by rfl, ?_⟩) (by assumption) ?_; rotate_left; (focus (intro w hSw; (try dsimp only at hSw); go_simp; try with_reducible rfl)); (try simp only [Act.put, sA, sB, sC, hA2, hq2, hAM, hmo, Bool.not_true, Bool.not_false])
      refine wpAnyH_take (i := 2) (v := _) (by simp only [gA, gB, gC]; rfl) (by kernel_rfl) (by kernel_rfl) (by kernel_rfl) (by exact fun _ _ _ h => h) (yields_at (by rfl) _ rfl ⟨bn, 2, none⟩ rfl (labM lb) hcl hundL rfl hsl) (by assumption) ?_; (try simp only [Act.put, sA, sB, sC, hA2, hq2, hAM, hmo, Bool.not_true, Bool.not_false])
      refine wpAnyH_ready (rs := [3]) (by kernel_rfl) (by simp) ?_
      refine AllReadyH.cons (by simp only [gA, gB, gC]; rfl) (fun K hK => ?_) AllReadyH.nil
      go_simp
      go_at_call 18
      refine (ko w0).mono ?_
      rintro e w1 ⟨rfl, hb⟩
      have hS1 := Below.then hS0 hb
      clear hb
      refine hK.out _ _ (by exact hS1) ?_
      clear hHeld hK
      intro hHeld
      (try simp only [Act.put, sA, sB, sC, hA2, hq2, hAM, hmo, Bool.not_true, Bool.not_false])
      refine wpAnyH_take (i := 4) (v := ?_) (by simp only [gA, gB, gC]; rfl) (by kernel_rfl) (by kernel_rfl) (by kernel_rfl) (by exact fun _ _ _ h => h) (Or.inl ⟨by rfl, ?_⟩) (by assumption) ?_; rotate_left; (focus (intro w hSw; (try dsimp only at hSw); go_simp; try with_reducible rfl)); (try simp only [Act.put, sA, sB, sC, hA2, hq2, hAM, hmo, Bool.not_true, Bool.not_false])
      refine wpAnyH_take (i := 5) (v := ?_) (by simp only [gA, gB, gC]; rfl) (by kernel_rfl) (by kernel_rfl) (by kernel_rfl) (by exact fun _ _ _ h => h) (Or.inl ⟨by rfl, ?_⟩) (by assumption) ?_; rotate_left; (focus (intro w hSw; (try dsimp only at hSw); go_simp; try with_reducible rfl)); (try simp only [Act.put, sA, sB, sC, hA2, hq2, hAM, hmo, Bool.not_true, Bool.not_false])
      refine wpAnyH_take (i := 6) (v := undef) (by simp only [gA, gB, gC]; rfl) (by kernel_rfl) (by kernel_rfl) (by kernel_rfl) (by exact fun _ _ _ h => h) (Or.inr ⟨by rfl, rfl⟩) (by assumption) ?_; (try simp only [Act.put, sA, sB, sC, hA2, hq2, hAM, hmo, Bool.not_true, Bool.not_false])
      refine wpAnyH_take (i := 7) (v := undef) (by simp only [gA, gB, gC]; rfl) (by kernel_rfl) (by kernel_rfl) (by kernel_rfl) (by exact fun _ _ _ h => h) (Or.inr ⟨by rfl, rfl⟩) (by assumption) ?_; (try simp only [Act.put, sA, sB, sC, hA2, hq2, hAM, hmo, Bool.not_true, Bool.not_false])
      refine wpAnyH_take (i := 8) (v := ?_) (by simp only [gA, gB, gC]; rfl) (by kernel_rfl) (by kernel_rfl) (by kernel_rfl) (by exact fun _ _ _ h => h) (Or.inl ⟨by rfl, ?_⟩) (by assumption) ?_; rotate_left; (focus (intro w hSw; (try dsimp only at hSw); go_simp; try with_reducible rfl)); (try simp only [Act.put, sA, sB, sC, hA2, hq2, hAM, hmo, Bool.not_true, Bool.not_false])
      refine wpAnyH_take (i := 9) (v := ?_) (by simp only [gA, gB, gC]; rfl) (by kernel_rfl) (by kernel_rfl) (by kernel_rfl) (by exact fun _ _ _ h => h) (Or.inl ⟨by rfl, ?_⟩) (by assumption) ?_; rotate_left; (focus (intro w hSw; (try dsimp only at hSw); go_simp; try with_reducible rfl)); (try simp only [Act.put, sA, sB, sC, hA2, hq2, hAM, hmo, Bool.not_true, Bool.not_false])
      refine wpAnyH_take (i := 10) (v := ?_) (by simp only [gA, gB, gC]; rfl) (by kernel_rfl) (by kernel_rfl) (by kernel_rfl) (by exact fun _ _ _ h => h) (Or.inl ⟨by rfl, ?_⟩) (by assumption) ?_; rotate_left; (focus (intro w hSw; (try dsimp only at hSw); go_simp; try with_reducible rfl)); (try simp only [Act.put, sA, sB, sC, hA2, hq2, hAM, hmo, Bool.not_true, Bool.not_false])
      refine wpAnyH_take (i := 11) (v := ?_) (by simp only [gA, gB, gC]; rfl) (by kernel_rfl) (by kernel_rfl) (by kernel_rfl) (by exact fun _ _ _ h => h) (Or.inl ⟨by rfl, ?_⟩) (by assumption) ?_; rotate_left; (focus (intro w hSw; (try dsimp only at hSw); go_simp; try with_reducible rfl)); (try simp only [Act.put, sA, sB, sC, hA2, hq2, hAM, hmo, Bool.not_true, Bool.not_false])
      refine wpAnyH_take (i := 12) (v := ?_) (by simp only [gA, gB, gC]; rfl) (by kernel_rfl) (by kernel_rfl) (by kernel_rfl) (by exact fun _ _ _ h => h) (Or.inl ⟨by rfl, ?_⟩) (by assumption) ?_; rotate_left; (focus (intro w hSw; (try dsimp only at hSw); go_simp; try with_reducible rfl)); (try simp only [Act.put, sA, sB, sC, hA2, hq2, hAM, hmo, Bool.not_true, Bool.not_false])
      refine wpAnyH_take (i := 13) (v := ?_) (by simp only [gA, gB, gC]; rfl) (by kernel_rfl) (by kernel_rfl) (by kernel_rfl) (by exact fun _ _ _ h => h) (Or.inl ⟨by rfl, ?_⟩) (by assumption) ?_; rotate_left; (focus (intro w hSw; (try dsimp only at hSw); go_simp; try with_reducible rfl)); (try simp only [Act.put, sA, sB, sC, hA2, hq2, hAM, hmo, Bool.not_true, Bool.not_false])
      refine wpAnyH_take (i := 14) (v := undef) (by simp only [gA, gB, gC]; rfl) (by kernel_rfl) (by kernel_rfl) (by kernel_rfl) (by exact fun _ _ _ h => h) (Or.inr ⟨by rfl, rfl⟩) (by assumption) ?_; (try simp only [Act.put, sA, sB, sC, hA2, hq2, hAM, hmo, Bool.not_true, Bool.not_false])
      refine wpAnyH_take (i := 15) (v := undef) (by simp only [gA, gB, gC]; rfl) (by kernel_rfl) (by kernel_rfl) (by kernel_rfl) (by exact fun _ _ _ h => h) (Or.inr ⟨by rfl, rfl⟩) (by assumption) ?_; (try simp only [Act.put, sA, sB, sC, hA2, hq2, hAM, hmo, Bool.not_true, Bool.not_false])
      refine wpAnyH_take (i := 16) (v := undef) (by simp only [gA, gB, gC]; rfl) (by kernel_rfl) (by kernel_rfl) (by kernel_rfl) (by exact fun _ _ _ h => h) (Or.inr ⟨by rfl, rfl⟩) (by assumption) ?_; (try simp only [Act.put, sA, sB, sC, hA2, hq2, hAM, hmo, Bool.not_true, Bool.not_false])
      refine wpAnyH_take (i := 17) (v := undef) (by simp only [gA, gB, gC]; rfl) (by kernel_rfl) (by kernel_rfl) (by kernel_rfl) (by exact fun _ _ _ h => h) (Or.inr ⟨by rfl, rfl⟩) (by assumption) ?_; (try simp only [Act.put, sA, sB, sC, hA2, hq2, hAM, hmo, Bool.not_true, Bool.not_false])
      refine wpAnyH_take (i := 18) (v := ?_) (by simp only [gA, gB, gC]; rfl) (by kernel_rfl) (by kernel_rfl) (by kernel_rfl) (by exact fun _ _ _ h => h) (Or.inl ⟨by rfl, ?_⟩) (by assumption) ?_; rotate_left; (focus (intro w hSw; (try dsimp only at hSw); go_simp; try with_reducible rfl)); (try simp only [Act.put, sA, sB, sC, hA2, hq2, hAM, hmo, Bool.not_true, Bool.not_false])
      refine wpAnyH_take (i := 19) (v := ?_) (by simp only [gA, gB, gC]; rfl) (by kernel_rfl) (by kernel_rfl) (by kernel_rfl) (by exact fun _ _ _ h => h) (Or.inl ⟨by rfl, ?_⟩) (by assumption) ?_; rotate_left; (focus (intro w hSw; (try dsimp only at hSw); go_simp; try with_reducible rfl)); (try simp only [Act.put, sA, sB, sC, hA2, hq2, hAM, hmo, Bool.not_true, Bool.not_false])
      refine wpAnyH_take (i := 20) (v := ?_) (by simp only [gA, gB, gC]; rfl) (by kernel_rfl) (by kernel_rfl) (by kernel_rfl) (by exact fun _ _ _ h => h) (Or.inl ⟨by rfl, ?_⟩) (by assumption) ?_; rotate_left; (focus (intro w hSw; (try dsimp only at hSw); go_simp; try with_reducible rfl)); (try simp only [Act.put, sA, sB, sC, hA2, hq2, hAM, hmo, Bool.not_true, Bool.not_false])
      refine wpAnyH_take (i := 21) (v := ?_) (by simp only [gA, gB, gC]; rfl) (by kernel_rfl) (by kernel_rfl) (by kernel_rfl) (by exact fun _ _ _ h => h) (Or.inl ⟨by rfl, ?_⟩) (by assumption) ?_; rotate_left; (focus (intro w hSw; (try dsimp only at hSw); go_simp; try with_reducible rfl)); (try simp only [Act.put, sA, sB, sC, hA2, hq2, hAM, hmo, Bool.not_true, Bool.not_false])
      refine wpAnyH_take (i := 22) (v := _) (by simp only [gA, gB, gC]; rfl) (by kernel_rfl) (by kernel_rfl) (by kernel_rfl) (by exact fun _ _ _ h => h) (yields_cell (by rfl) _ rfl ⟨bn, 6, none⟩ rfl (.slice f.aa fl f.ca) hz6 grsA_load) (by assumption) ?_; (try simp only [Act.put, sA, sB, sC, hA2, hq2, hAM, hmo, Bool.not_true, Bool.not_false])
      refine wpAnyH_take (i := 23) (v := ?_) (by simp only [gA, gB, gC]; rfl) (by kernel_rfl) (by kernel_rfl) (by kernel_rfl) (by exact fun _ _ _ h => h) (Or.inl ⟨by rfl, ?_⟩) (by assumption) ?_; rotate_left; (focus (intro w hSw; (try dsimp only at hSw); go_simp; try with_reducible rfl)); (try simp only [Act.put, sA, sB, sC, hA2, hq2, hAM, hmo, Bool.not_true, Bool.not_false])
      refine wpAnyH_take (i := 26) (v := ?_) (by simp only [gA, gB, gC]; rfl) (by kernel_rfl) (by kernel_rfl) (by kernel_rfl) (by exact fun _ _ _ h => h) (Or.inl ⟨by rfl, ?_⟩) (by assumption) ?_; rotate_left; (focus (intro w hSw; (try dsimp only at hSw); go_simp; try with_reducible rfl)); (try simp only [Act.put, sA, sB, sC, hA2, hq2, hAM, hmo, Bool.not_true, Bool.not_false])
      refine wpAnyH_take (i := 28) (v := ?_) (by simp only [gA, gB, gC]; rfl) (by kernel_rfl) (by kernel_rfl) (by kernel_rfl) (by exact fun _ _ _ h => h) (Or.inl ⟨by rfl, ?_⟩) (by assumption) ?_; rotate_left; (focus (intro w hSw; (try dsimp only at hSw); go_simp; try with_reducible rfl)); (try simp only [Act.put, sA, sB, sC, hA2, hq2, hAM, hmo, Bool.not_true, Bool.not_false])
      refine wpAnyH_ready (rs := [24]) (by kernel_rfl) (by simp) ?_
      refine AllReadyH.cons (by simp only [gA, gB, gC]; rfl) (fun K hK => ?_) AllReadyH.nil
      go_simp
      go_at_call 14
      refine (kwho w1).mono ?_
      rintro e w2 ⟨rfl, hb⟩
      have hS2 := Below.then hS1 hb
      clear hb
      refine hK.out _ _ (by exact hS2) ?_
      clear hHeld hK
      intro hHeld
      (try simp only [Act.put, sA, sB, sC, hA2, hq2, hAM, hmo, Bool.not_true, Bool.not_false])
      refine wpAnyH_ready (rs := [25]) (by kernel_rfl) (by simp) ?_
      refine AllReadyH.cons (by simp only [gA, gB, gC]; rfl) (fun K hK => ?_) AllReadyH.nil
      go_simp
      go_at_call 19
      refine (km w2 hS2).mono ?_
      rintro e w' ⟨rfl, hw'⟩
      replace hw' := hw'.symm
      subst hw'
      refine hK.out _ _ (by exact hS2) ?_
      clear hHeld hK
      intro hHeld
      (try simp only [Act.put, sA, sB, sC, hA2, hq2, hAM, hmo, Bool.not_true, Bool.not_false])
      refine wpAnyH_take (i := 27) (v := ?_) (by simp only [gA, gB, gC]; rfl) (by kernel_rfl) (by kernel_rfl) (by kernel_rfl) (by exact fun _ _ _ h => h) (Or.inl ⟨by rfl, ?_⟩) (by assumption) ?_; rotate_left; (focus (intro w hSw; (try dsimp only at hSw); go_simp; try with_reducible rfl)); (try simp only [Act.put, sA, sB, sC, hA2, hq2, hAM, hmo, Bool.not_true, Bool.not_false])
      refine wpAnyH_take (i := 29) (v := ?_) (by simp only [gA, gB, gC]; rfl) (by kernel_rfl) (by kernel_rfl) (by kernel_rfl) (by exact fun _ _ _ h => h) (Or.inl ⟨by rfl, ?_⟩) (by assumption) ?_; rotate_left; (focus (intro w hSw; (try dsimp only at hSw); go_simp; try with_reducible rfl)); (try simp only [Act.put, sA, sB, sC, hA2, hq2, hAM, hmo, Bool.not_true, Bool.not_false])
      refine wpAnyH_take (i := 30) (v := ?_) (by simp only [gA, gB, gC]; rfl) (by kernel_rfl) (by kernel_rfl) (by kernel_rfl) (by exact fun _ _ _ h => h) (Or.inl ⟨by rfl, ?_⟩) (by assumption) ?_; rotate_left; (focus (intro w hSw; (try dsimp only at hSw); go_simp; try with_reducible rfl)); (try simp only [Act.put, sA, sB, sC, hA2, hq2, hAM, hmo, Bool.not_true, Bool.not_false])
      refine wpAnyH_done (by kernel_rfl) ?_ _
      go_wp2_with fail
      go_meet
      exact ⟨rfl, hS2⟩
    · rw [hle hq2] at hnq
      clear hle
      refine wp_region_held_drew (S := (fun W => Below Y.heap.size Y W)) (by kernel_rfl) (by exact hS0) ?_
      intro hHeld
      generalize Y.drew = w0 at *
      refine wpAnyH_take (i := 0) (v := _) (by simp only [gA, gB, gC]; rfl) (by kernel_rfl) (by kernel_rfl) (by kernel_rfl) (by exact fun _ _ _ h => h) (yields_row (by rfl) _ rfl w.heap.size rfl (lab4 t) (fun _ q => (stab_blk _ _ _ _ hbt q).range) hundL rfl hsl) (by assumption) ?_; (try simp only [Act.put, sA, sB, sC, hA2, hq2, hAM, hmo, Bool.not_true, Bool.not_false])
      refine wpAnyH_take (i := 1) (v := ?_) (by simp only [gA, gB, gC]; rfl) (by kernel_rfl) (by kernel_rfl) (by kernel_rfl) (by exact fun _ _ _ h => h) (Or.inl ⟨by rfl, ?_⟩) (by assumption) ?_; rotate_left; (focus (intro w hSw; (try dsimp only at hSw); go_simp; try with_reducible rfl)); (try simp only [Act.put, sA, sB, sC, hA2, hq2, hAM, hmo, Bool.not_true, Bool.not_false])
      refine wpAnyH_take (i := 2) (v := _) (by simp only [gA, gB, gC]; rfl) (by kernel_rfl) (by kernel_rfl) (by kernel_rfl) (by exact fun _ _ _ h => h) (yields_at (by rfl) _ rfl ⟨bn, 2, none⟩ rfl (labM lb) hcl hundL rfl hsl) (by assumption) ?_; (try simp only [Act.put, sA, sB, sC, hA2, hq2, hAM, hmo, Bool.not_true, Bool.not_false])
      refine wpAnyH_ready (rs := [3]) (by kernel_rfl) (by simp) ?_
      refine AllReadyH.cons (by simp only [gA, gB, gC]; rfl) (fun K hK => ?_) AllReadyH.nil
      go_simp
      go_at_call 18
      refine (ko w0).mono ?_
      rintro e w1 ⟨rfl, hb⟩
      have hS1 := Below.then hS0 hb
      clear hb
      refine hK.out _ _ (by exact hS1) ?_
      clear hHeld hK
      intro hHeld
      (try simp only [Act.put, sA, sB, sC, hA2, hq2, hAM, hmo, Bool.not_true, Bool.not_false])
      refine wpAnyH_take (i := 4) (v := ?_) (by simp only [gA, gB, gC]; rfl) (by kernel_rfl) (by kernel_rfl) (by kernel_rfl) (by exact fun _ _ _ h => h) (Or.inl ⟨by rfl, ?_⟩) (by assumption) ?_; rotate_left; (focus (intro w hSw; (try dsimp only at hSw); go_simp; try with_reducible rfl)); (try simp only [Act.put, sA, sB, sC, hA2, hq2, hAM, hmo, Bool.not_true, Bool.not_false])
      refine wpAnyH_take (i := 5) (v := ?_) (by simp only [gA, gB, gC]; rfl) (by kernel_rfl) (by kernel_rfl) (by kernel_rfl) (by exact fun _ _ _ h => h) (Or.inl ⟨by rfl, ?_⟩) (by assumption) ?_; rotate_left; (focus (intro w hSw; (try dsimp only at hSw); go_simp; try with_reducible rfl)); (try simp only [Act.put, sA, sB, sC, hA2, hq2, hAM, hmo, Bool.not_true, Bool.not_false])
      refine wpAnyH_take (i := 6) (v := undef) (by simp only [gA, gB, gC]; rfl) (by kernel_rfl) (by kernel_rfl) (by kernel_rfl) (by exact fun _ _ _ h => h) (Or.inr ⟨by rfl, rfl⟩) (by assumption) ?_; (try simp only [Act.put, sA, sB, sC, hA2, hq2, hAM, hmo, Bool.not_true, Bool.not_false])
      refine wpAnyH_take (i := 7) (v := undef) (by simp only [gA, gB, gC]; rfl) (by kernel_rfl) (by kernel_rfl) (by kernel_rfl) (by exact fun _ _ _ h => h) (Or.inr ⟨by rfl, rfl⟩) (by assumption) ?_; (try simp only [Act.put, sA, sB, sC, hA2, hq2, hAM, hmo, Bool.not_true, Bool.not_false])
      refine wpAnyH_take (i := 8) (v := ?_) (by simp only [gA, gB, gC]; rfl) (by kernel_rfl) (by kernel_rfl) (by kernel_rfl) (by exact fun _ _ _ h => h) (Or.inl ⟨by rfl, ?_⟩) (by assumption) ?_; rotate_left; (focus (intro w hSw; (try dsimp only at hSw); go_simp; try with_reducible rfl)); (try simp only [Act.put, sA, sB, sC, hA2, hq2, hAM, hmo, Bool.not_true, Bool.not_false])
      refine wpAnyH_take (i := 9) (v := ?_) (by simp only [gA, gB, gC]; rfl) (by kernel_rfl) (by kernel_rfl) (by kernel_rfl) (by exact fun _ _ _ h => h) (Or.inl ⟨by rfl, ?_⟩) (by assumption) ?_; rotate_left; (focus (intro w hSw; (try dsimp only at hSw); go_simp; try with_reducible rfl)); (try simp only [Act.put, sA, sB, sC, hA2, hq2, hAM, hmo, Bool.not_true, Bool.not_false])
      refine wpAnyH_take (i := 10) (v := ?_) (by simp only [gA, gB, gC]; rfl) (by kernel_rfl) (by kernel_rfl) (by kernel_rfl) (by exact fun _ _ _ h => h) (Or.inl ⟨by rfl, ?_⟩) (by assumption) ?_; rotate_left; (focus (intro w hSw; (try dsimp only at hSw); go_simp; try with_reducible rfl)); (try simp only [Act.put, sA, sB, sC, hA2, hq2, hAM, hmo, Bool.not_true, Bool.not_false])
      refine wpAnyH_take (i := 11) (v := ?_) (by simp only [gA, gB, gC]; rfl) (by kernel_rfl) (by kernel_rfl) (by kernel_rfl) (by exact fun _ _ _ h => h) (Or.inl ⟨by rfl, ?_⟩) (by assumption) ?_; rotate_left; (focus (intro w hSw; (try dsimp only at hSw); go_simp; try with_reducible rfl)); (try simp only [Act.put, sA, sB, sC, hA2, hq2, hAM, hmo, Bool.not_true, Bool.not_false])
      refine wpAnyH_take (i := 12) (v := ?_) (by simp only [gA, gB, gC]; rfl) (by kernel_rfl) (by kernel_rfl) (by kernel_rfl) (by exact fun _ _ _ h => h) (Or.inl ⟨by rfl, ?_⟩) (by assumption) ?_; rotate_left; (focus (intro w hSw; (try dsimp only at hSw); go_simp; try with_reducible rfl)); (try simp only [Act.put, sA, sB, sC, hA2, hq2, hAM, hmo, Bool.not_true, Bool.not_false])
      refine wpAnyH_take (i := 13) (v := ?_) (by simp only [gA, gB, gC]; rfl) (by kernel_rfl) (by kernel_rfl) (by kernel_rfl) (by exact fun _ _ _ h => h) (Or.inl ⟨by rfl, ?_⟩) (by assumption) ?_; rotate_left; (focus (intro w hSw; (try dsimp only at hSw); go_simp; try with_reducible rfl)); (try simp only [Act.put, sA, sB, sC, hA2, hq2, hAM, hmo, Bool.not_true, Bool.not_false])
      refine wpAnyH_take (i := 14) (v := _) (by simp only [gA, gB, gC]; rfl) (by kernel_rfl) (by kernel_rfl) (by kernel_rfl) (by exact fun _ _ _ h => h) (yields_row (by rfl) _ rfl w.heap.size rfl (lab4 t) (fun _ q => (stab_blk _ _ _ _ hbt q).range) hundL rfl hsl) (by assumption) ?_; (try simp only [Act.put, sA, sB, sC, hA2, hq2, hAM, hmo, Bool.not_true, Bool.not_false])
      refine wpAnyH_take (i := 15) (v := ?_) (by simp only [gA, gB, gC]; rfl) (by kernel_rfl) (by kernel_rfl) (by kernel_rfl) (by exact fun _ _ _ h => h) (Or.inl ⟨by rfl, ?_⟩) (by assumption) ?_; rotate_left; (focus (intro w hSw; (try dsimp only at hSw); go_simp; try with_reducible rfl)); (try simp only [Act.put, sA, sB, sC, hA2, hq2, hAM, hmo, Bool.not_true, Bool.not_false])
      refine wpAnyH_take (i := 16) (v := _) (by simp only [gA, gB, gC]; rfl) (by kernel_rfl) (by kernel_rfl) (by kernel_rfl) (by exact fun _ _ _ h => h) (yields_at (by rfl) _ rfl ⟨bn, 2, none⟩ rfl (labM lb) hcl hundL rfl hsl) (by assumption) ?_; (try simp only [Act.put, sA, sB, sC, hA2, hq2, hAM, hmo, Bool.not_true, Bool.not_false])
      refine wpAnyH_take (i := 17) (v := ?_) (by simp only [gA, gB, gC]; rfl) (by kernel_rfl) (by kernel_rfl) (by kernel_rfl) (by exact fun _ _ _ h => h) (Or.inl ⟨by rfl, ?_⟩) (by assumption) ?_; rotate_left; (focus (intro w hSw; (try dsimp only at hSw); go_simp; try with_reducible rfl)); (try simp only [Act.put, sA, sB, sC, hA2, hq2, hAM, hmo, Bool.not_true, Bool.not_false])
      refine wpAnyH_take (i := 18) (v := ?_) (by simp only [gA, gB, gC]; rfl) (by kernel_rfl) (by kernel_rfl) (by kernel_rfl) (by exact fun _ _ _ h => h) (Or.inl ⟨by rfl, ?_⟩) (by assumption) ?_; rotate_left; (focus (intro w hSw; (try dsimp only at hSw); go_simp; try with_reducible rfl)); (try simp only [Act.put, sA, sB, sC, hA2, hq2, hAM, hmo, Bool.not_true, Bool.not_false])
      refine wpAnyH_take (i := 19) (v := ?_) (by simp only [gA, gB, gC]; rfl) (by kernel_rfl) (by kernel_rfl) (by kernel_rfl) (by exact fun _ _ _ h => h) (Or.inl ⟨by rfl, ?_⟩) (by assumption) ?_; rotate_left; (focus (intro w hSw; (try dsimp only at hSw); go_simp; try with_reducible rfl)); (try simp only [Act.put, sA, sB, sC, hA2, hq2, hAM, hmo, Bool.not_true, Bool.not_false])
      refine wpAnyH_take (i := 20) (v := ?_) (by simp only [gA, gB, gC]; rfl) (by kernel_rfl) (by kernel_rfl) (by kernel_rfl) (by exact fun _ _ _ h => h) (Or.inl ⟨by rfl, ?_⟩) (by assumption) ?_; rotate_left; (focus (intro w hSw; (try dsimp only at hSw); go_simp; try with_reducible rfl)); (try simp only [Act.put, sA, sB, sC, hA2, hq2, hAM, hmo, Bool.not_true, Bool.not_false])
      refine wpAnyH_take (i := 21) (v := ?_) (by simp only [gA, gB, gC]; rfl) (by kernel_rfl) (by kernel_rfl) (by kernel_rfl) (by exact fun _ _ _ h => h) (Or.inl ⟨by rfl, ?_⟩) (by assumption) ?_; rotate_left; (focus (intro w hSw; (try dsimp only at hSw); go_simp; try with_reducible rfl)); (try simp only [Act.put, sA, sB, sC, hA2, hq2, hAM, hmo, Bool.not_true, Bool.not_false])
      refine wpAnyH_take (i := 22) (v := _) (by simp only [gA, gB, gC]; rfl) (by kernel_rfl) (by kernel_rfl) (by kernel_rfl) (by exact fun _ _ _ h => h) (yields_cell (by rfl) _ rfl ⟨bn, 6, none⟩ rfl (.slice f.aa fl f.ca) hz6 grsA_load) (by assumption) ?_; (try simp only [Act.put, sA, sB, sC, hA2, hq2, hAM, hmo, Bool.not_true, Bool.not_false])
      refine wpAnyH_take (i := 23) (v := ?_) (by simp only [gA, gB, gC]; rfl) (by kernel_rfl) (by kernel_rfl) (by kernel_rfl) (by exact fun _ _ _ h => h) (Or.inl ⟨by rfl, ?_⟩) (by assumption) ?_; rotate_left; (focus (intro w hSw; (try dsimp only at hSw); go_simp; try with_reducible rfl)); (try simp only [Act.put, sA, sB, sC, hA2, hq2, hAM, hmo, Bool.not_true, Bool.not_false])
      refine wpAnyH_take (i := 26) (v := ?_) (by simp only [gA, gB, gC]; rfl) (by kernel_rfl) (by kernel_rfl) (by kernel_rfl) (by exact fun _ _ _ h => h) (Or.inl ⟨by rfl, ?_⟩) (by assumption) ?_; rotate_left; (focus (intro w hSw; (try dsimp only at hSw); go_simp; try with_reducible rfl)); (try simp only [Act.put, sA, sB, sC, hA2, hq2, hAM, hmo, Bool.not_true, Bool.not_false])
      refine wpAnyH_take (i := 28) (v := ?_) (by simp only [gA, gB, gC]; rfl) (by kernel_rfl) (by kernel_rfl) (by kernel_rfl) (by exact fun _ _ _ h => h) (Or.inl ⟨by rfl, ?_⟩) (by assumption) ?_; rotate_left; (focus (intro w hSw; (try dsimp only at hSw); go_simp; try with_reducible rfl)); (try simp only [Act.put, sA, sB, sC, hA2, hq2, hAM, hmo, Bool.not_true, Bool.not_false])
      refine wpAnyH_ready (rs := [24]) (by kernel_rfl) (by simp) ?_
      refine AllReadyH.cons (by simp only [gA, gB, gC]; rfl) (fun K hK => ?_) AllReadyH.nil
      go_simp
      go_at_call 14
      refine (kwho w1).mono ?_
      rintro e w2 ⟨rfl, hb⟩
      have hS2 := Below.then hS1 hb
      clear hb
      refine hK.out _ _ (by exact hS2) ?_
      clear hHeld hK
      intro hHeld
      (try simp only [Act.put, sA, sB, sC, hA2, hq2, hAM, hmo, Bool.not_true, Bool.not_false])
      refine wpAnyH_ready (rs := [25]) (by kernel_rfl) (by simp) ?_
      refine AllReadyH.cons (by simp only [gA, gB, gC]; rfl) (fun K hK => ?_) AllReadyH.nil
      go_simp
      go_at_call 19
      refine (km w2 hS2).mono ?_
      rintro e w' ⟨rfl, hw'⟩
      replace hw' := hw'.symm
      subst hw'
      refine hK.out _ _ (by exact hS2) ?_
      clear hHeld hK
      intro hHeld
      (try simp only [Act.put, sA, sB, sC, hA2, hq2, hAM, hmo, Bool.not_true, Bool.not_false])
      refine wpAnyH_take (i := 27) (v := ?_) (by simp only [gA, gB, gC]; rfl) (by kernel_rfl) (by kernel_rfl) (by kernel_rfl) (by exact fun _ _ _ h => h) (Or.inl ⟨by rfl, ?_⟩) (by assumption) ?_; rotate_left; (focus (intro w hSw; (try dsimp only at hSw); go_simp; try with_reducible rfl)); (try simp only [Act.put, sA, sB, sC, hA2, hq2, hAM, hmo, Bool.not_true, Bool.not_false])
      refine wpAnyH_take (i := 29) (v := ?_) (by simp only [gA, gB, gC]; rfl) (by kernel_rfl) (by kernel_rfl) (by kernel_rfl) (by exact fun _ _ _ h => h) (Or.inl ⟨by rfl, ?_⟩) (by assumption) ?_; rotate_left; (focus (intro w hSw; (try dsimp only at hSw); go_simp; try with_reducible rfl)); (try simp only [Act.put, sA, sB, sC, hA2, hq2, hAM, hmo, Bool.not_true, Bool.not_false])
      refine wpAnyH_take (i := 30) (v := ?_) (by simp only [gA, gB, gC]; rfl) (by kernel_rfl) (by kernel_rfl) (by kernel_rfl) (by exact fun _ _ _ h => h) (Or.inl ⟨by rfl, ?_⟩) (by assumption) ?_; rotate_left; (focus (intro w hSw; (try dsimp only at hSw); go_simp; try with_reducible rfl)); (try simp only [Act.put, sA, sB, sC, hA2, hq2, hAM, hmo, Bool.not_true, Bool.not_false])
      refine wpAnyH_done (by kernel_rfl) ?_ _
      go_wp2_with fail
      go_meet
      exact ⟨rfl, hS2⟩
  case rest =>
  obtain ⟨rfl, hd⟩ := hcut
  obtain ⟨V, hV2⟩ : ∃ V, V = wc := ⟨_, rfl⟩
  subst hV2
  replace hG := hG.below hd
  replace hbt := stab_blk _ _ _ _ hbt hd
  replace hB := Below.then hB hd
  have hz0 : V.cell? ⟨bn, 0, none⟩ = some (.string p) := (hd.cell (World.block_lt_of_cell? _ _ hz0)).trans hz0
  clear hz6 hcl km ko hnq hle hd hbn hfa
  go_wp2_with fail
  refine (rparent_any p (by omega) V).mono ?_
  rintro e W4 ⟨rfl, hW4⟩
  replace hW4 := hW4.symm
  subst hW4
  clear hz0
  go_wp2_with fail
  go_loopw [17] (fun t17 wq => ∃ q, t17 = .string q ∧ OnWay (namesP l) x.n q ∧ GT B1 wq (some y) c l ts (ms.map (·.m)) ∧ BlkL w.heap.size (lab4 t) wq ∧ Below w.heap.size w wq) (fun t17 _ => strM t17)
  case atStart => exact ⟨_, rfl, hw0, hG, hbt, hB⟩
  case round =>
  clear hG hbt hB hw0
  obtain ⟨q, rfl, hw, hG, hbt, hB⟩ := hrel
  rcases hw with rfl | ⟨d, hd, rfl, hdd, hov⟩
  · go_wp2_with fail
    exact ⟨⟨i + 1, by omega, by simp, hG, hbt, hB⟩, by simp [Go.RowKit.intOf]; omega⟩
  obtain ⟨dp, hdp, rfl⟩ := List.mem_map.1 hd
  have hpc := (nodC_zero.1 (hF.ok dp hdp)).1
  have hplt := parentM_lt hpc
  have hpsz := hLp dp hdp
  have hne : dp.n.path.toList.isEmpty = false := by
    cases hb : dp.n.path.toList with
    | nil =>
      exfalso
      rw [toL] at hb
      have : dp.n.path.size = 0 := by show dp.n.path.data.size = 0; rw [← Array.length_toList, hb]; rfl
      omega
    | cons _ _ => rfl
  have hway := hT.way_up hxn hd hov
  have hrd : rov t dp.n.label = true := rov_trans hGt (hLG x hxm) (hLG dp hdp) hrov.out hov
  have kfp := kf wr dp.n.path hG.row
  obtain ⟨z, hz, hzn⟩ : ∃ z, findP l dp.n.path = some z ∧ z.n = dp.n := by
    have q := find_mem hT.ord hd
    rw [find_names] at q
    cases hf : findP l dp.n.path with
    | none => rw [hf] at q; cases q
    | some z => rw [hf] at q; exact ⟨z, rfl, Option.some.inj q⟩
  rw [hz] at kfp
  replace kfp : Calls Tryd.prog 21 #[.slice (some y) n c, .string dp.n.path] wr fun e w' => e = .returned (.tuple #[.agg z.cs.toArray, .bool true]) ∧ Below wr.heap.size wr w' := kfp
  obtain ⟨dq, hdq⟩ : ∃ dq, dp.n.path = dq := ⟨_, rfl⟩
  rw [hdq] at kfp hplt hpsz hne hway ⊢
  clear hdq hz hpc hd hov hdp
  go_wp2_with fail
  refine kfp.mono ?_
  rintro e W5 ⟨rfl, hB5⟩
  obtain ⟨W6, hW6, hth, hbk, hB6⟩ := put_new W5 zN 36 z.cs rfl (by rw [pn_len]; omega)
  have hd5 := Below.then hB5 hB6
  replace hG := hG.below hd5
  replace hbt := stab_blk _ _ _ _ hbt hd5
  replace hB := Below.then hB hd5
  have hszf : (Tryd.prog.info? 36).map (·.size) = some z.cs.length := by rw [pn_len]; exact hszN
  have hone := pn_one z
  have hfl : CellsAt W6 ⟨W5.heap.size, 2, none⟩ (labM dp.n.label) := by have := nd_lab hbk; rw [hzn] at this; exact this
  have hfd : W6.cell? ⟨W5.heap.size, 1, none⟩ = some (.bool true) := by have := (hbk.1 1 _ rfl).1; rw [hzn, hdd] at this; exact this
  have hrt := hbt.range
  have ko := rlover_any t dp.n.label W6
  rw [hrd] at ko
  clear kfp hbk hzn hB5 hB6 hd5
  go_wp2_with (first | (refine wpList_store_row rfl _ _ rfl W5.heap.size rfl z.cs rfl hth hszf hone hW6 ?_) | (refine wpList_load_rowg (by rfl) _ rfl w.heap.size rfl (lab4 t) hrt hundL rfl hsl ?_) | (refine wpList_load_atg (by rfl) _ rfl ⟨W5.heap.size, 2, none⟩ rfl (labM dp.n.label) hfl hundL rfl hsl ?_) | fail)
  refine ko.mono ?_
  rintro e W7 ⟨rfl, hB7⟩
  replace hG := hG.below hB7
  replace hbt := stab_blk _ _ _ _ hbt hB7
  replace hB := Below.then hB hB7
  clear ko hrt hfl hfd hth hW6 hB7
  go_wp2_with fail
  refine (rparent_any dq (by omega) W7).mono ?_
  rintro e W8 ⟨rfl, hW8⟩
  replace hW8 := hW8.symm
  subst hW8
  go_wp2_with fail
  exact ⟨⟨_, rfl, hway, hG, hbt, hB⟩, by simp [strM]; omega⟩
end Go.Proofs.YtapgjdmnlkedgaaDoor
