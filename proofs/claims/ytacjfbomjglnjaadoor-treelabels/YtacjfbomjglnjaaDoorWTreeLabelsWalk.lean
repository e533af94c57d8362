/-
  P1101: a directory whose label is not over its parent's, a segment at another one, a node under a segment, or under nothing, is refused: the law's walk. Written by mk_tlabels.py.
-/
import Derived.Test.YtacjfbomjglnjaaDoorPt6
namespace Go.Proofs.YtacjfbomjglnjaaDoor
open Go.RowKit
set_option maxRecDepth 8000
set_option linter.unusedSimpArgs false
set_option linter.unusedVariables false

theorem str_load (w : World) (y : Addr) (v : Value) (h : w.cell? y = some v) : (Instr.loadAt 9 (.pointer (some y))).run Tryd.prog w = .ok v w := by
  have h1 := Tryd.underlying9
  go_simp
theorem set_all (f : PN) : setM ndz.toList 0 f.cs = f.cs := rfl
set_option maxHeartbeats 1000000 in
theorem lawover_any (a b : Lab) (w : World) :
    Calls Tryd.prog 32 #[a.v, b.v] w fun e w' => e = .returned (.bool (rov a b)) ∧ Below w.heap.size w w' := by
  cases h0 : decide (a.s ≥ b.s)
  · have e : rov a b = false := by simp only [rov, h0]; simp
    rw [e]
    go_enter Tryd.func32, Tryd.ntmps32
    go_wp2
    go_ret
    exact ⟨rfl, below2 _ _ _⟩
  cases h1 : (bits .and .i64 a.c b.c == b.c)
  · have e : rov a b = false := by simp only [rov, h0, h1]; simp
    rw [e]
    go_enter Tryd.func32, Tryd.ntmps32
    go_wp2
    go_ret
    exact ⟨rfl, below2 _ _ _⟩
  cases h2 : decide (a.i ≤ b.i)
  · have e : rov a b = false := by simp only [rov, h0, h1, h2]; simp
    rw [e]
    go_enter Tryd.func32, Tryd.ntmps32
    go_wp2
    go_ret
    exact ⟨rfl, below2 _ _ _⟩
  have e : rov a b = (bits .and .i64 a.k b.k == a.k) := by simp only [rov, h0, h1, h2]; simp
  rw [e]
  go_enter Tryd.func32, Tryd.ntmps32
  go_wp2
  go_ret
  exact ⟨rfl, below2 _ _ _⟩
/-- The node that is put. -/
def lbN (p : ByteArray) (l : Lab) : Nod := ⟨p, true, goodL l, [], 0, 0, 0, 0, [], ⟨0, 0, 0, 0⟩⟩
theorem GL0 : GL ⟨0, 0, 0, 0⟩ := by constructor <;> decide
theorem chkA_nil : chkA [] = 0 := by decide +kernel
theorem OkR0 : OkR ⟨0, 0, 0, 0⟩ := by decide
/-- Such a node may be. -/
theorem put_ok {p : ByteArray} {t : Lab} {b : Bool} (hp : checkOf p = 0) (hs : p ≠ slashS) (ht : GL t) : nodC ⟨p, b, t, [], 0, 0, 0, 0, [], ⟨0, 0, 0, 0⟩⟩ = 0 := nodC_zero.2 ⟨hp, ht, GL0, chkA_nil, fun _ => ⟨rfl, rfl⟩, fun _ => ⟨hs, OkR0, Nat.zero_le _⟩⟩
theorem nz_path : checkOf ⟨#[47, 110, 111, 47, 122, 122]⟩ = 0 ∧ (⟨#[47, 110, 111, 47, 122, 122]⟩ : ByteArray) = pathB [noS, zzS] := by
  have e : (⟨#[47, 110, 111, 47, 122, 122]⟩ : ByteArray) = pathB [noS, zzS] := by
    apply bytes_inj
    rw [pathB_bytes (by simp)]
    rfl
  refine ⟨?_, e⟩
  rw [e]
  exact check_names ⟨by simp, fun n hn => by simp at hn; rcases hn with rfl | rfl <;> decide +kernel⟩
theorem nz_ne : (⟨#[47, 110, 111, 47, 122, 122]⟩ : ByteArray) ≠ slashS := by decide
theorem zz_name : name zzS = true := by decide +kernel
theorem no_name : name noS = true := by decide +kernel
/-- What the law holds of the node, and of what it wants. -/
structure LbOk (L : List Nod) (d NN : Nod) (want : Int) : Prop where
  ok : nodC NN = 0
  new : ∀ x ∈ L, x.path ≠ NN.path
  ns : NN.path ≠ slashS
  par : parentOf NN.path ≠ NN.path
  res : (if d.dir = false ∧ want ≠ 2 then 3 else want) = upErr NN (findN L (parentOf NN.path))
theorem lb_under {L : List Nod} (hT : Tree L) (hok : ∀ x ∈ L, OkPath x.path) {d : Nod} (hd : d ∈ L) (hc : checkOf (joinOf d.path zzS) = 0) : (∀ x ∈ L, x.path ≠ joinOf d.path zzS) ∧ joinOf d.path zzS ≠ slashS ∧ parentOf (joinOf d.path zzS) = d.path ∧ d.path ≠ joinOf d.path zzS ∧ findN L (parentOf (joinOf d.path zzS)) = some d := by
  obtain ⟨ns, hn, e⟩ := hT.names hd
  have hj : joinOf d.path zzS = pathB (ns ++ [zzS]) := by rw [e]; exact join_path zzS (fun q hq => (hn.flat q hq).2)
  have hfl : ∀ q ∈ ns ++ [zzS], Flat q ∧ 1 ≤ q.size := fun q hq => by
    obtain ⟨ms, hm, e2, _⟩ := check_path hc
    rw [hj] at e2
    rcases List.mem_append.1 hq with hq | hq
    · exact hn.flat q hq
    · obtain rfl := List.mem_singleton.1 hq
      exact (show Names [zzS] from ⟨by simp, fun n hn => by obtain rfl := List.mem_singleton.1 hn; exact zz_name⟩).flat zzS (by simp)
  have hpar : parentOf (joinOf d.path zzS) = d.path := by rw [hj, parent_path (hfl zzS (by simp)).1 (hfl zzS (by simp)).2, e]
  have hlt : d.path.size < (joinOf d.path zzS).size := by rw [hj, e]; exact pathB_size_lt (by decide)
  refine ⟨fun x hx q => ?_, fun q => ?_, hpar, fun q => ?_, by rw [hpar]; exact find_mem hT.ord hd⟩
  · have := hok x hx
    rw [q, hj] at this
    exact path_not hfl (b := zzS) (by simp) zz_not this
  · have h1 := hlt
    rw [q] at h1
    have h2 : d.path.size = 0 := by have : slashS.size = 1 := rfl; omega
    obtain ⟨hs, _⟩ := check_slashed (nodC_zero.1 (hT.ok d hd)).1
    have hb : bytes d.path = [] := List.eq_nil_of_length_eq_zero (by unfold bytes; rw [Array.length_toList]; exact h2)
    rw [hb] at hs
    cases hs
  · rw [← q] at hlt
    omega
theorem lb_zero {L : List Nod} (hT : Tree L) (hok : ∀ x ∈ L, OkPath x.path) {d : Nod} (hd : d ∈ L) (hc : checkOf (joinOf d.path zzS) = 0) (t : Lab) (ht : GL t) : LbOk L d ⟨joinOf d.path zzS, true, t, [], 0, 0, 0, 0, [], ⟨0, 0, 0, 0⟩⟩ (if rov t d.label = true then 0 else 15) := by
  obtain ⟨h1, h2, h3, h4, h5⟩ := lb_under hT hok hd hc
  refine ⟨put_ok hc h2 ht, h1, h2, by rw [h3]; exact h4, ?_⟩
  show _ = upErr _ (findN L (parentOf (joinOf d.path zzS)))
  rw [h5]
  unfold upErr
  cases hdd : d.dir <;> cases hrr : rov t d.label <;> simp [hdd, hrr]
theorem lb_one {L : List Nod} (hT : Tree L) (hok : ∀ x ∈ L, OkPath x.path) {d : Nod} (hd : d ∈ L) (hc : checkOf (joinOf d.path zzS) = 0) (t : Lab) (ht : GL t) : LbOk L d ⟨joinOf d.path zzS, false, t, [], 0, 0, 0, 0, [], ⟨0, 0, 0, 0⟩⟩ (if labEq t d.label = true then 0 else 15) := by
  obtain ⟨h1, h2, h3, h4, h5⟩ := lb_under hT hok hd hc
  refine ⟨put_ok hc h2 ht, h1, h2, by rw [h3]; exact h4, ?_⟩
  show _ = upErr _ (findN L (parentOf (joinOf d.path zzS)))
  rw [h5]
  unfold upErr
  cases hl : labEq t d.label
  · cases hdd : d.dir <;> simp [hl, hdd]
  · have e := (labEq_iff _ _).1 hl
    have hr : rov t d.label = true := by rw [e]; exact rov_self (by rw [← e]; exact ht)
    cases hdd : d.dir <;> simp [hl, hr, hdd]
theorem lb_two {L : List Nod} (hT : Tree L) (hok : ∀ x ∈ L, OkPath x.path) (d : Nod) (t : Lab) (ht : GL t) : LbOk L d ⟨⟨#[47, 110, 111, 47, 122, 122]⟩, true, t, [], 0, 0, 0, 0, [], ⟨0, 0, 0, 0⟩⟩ 2 := by
  obtain ⟨hc, e⟩ := nz_path
  have hn2 : Names [noS, zzS] := ⟨by simp, fun n hn => by simp at hn; rcases hn with rfl | rfl; exact no_name; exact zz_name⟩
  have hpar : parentOf ⟨#[47, 110, 111, 47, 122, 122]⟩ = pathB [noS] := by
    rw [e, show [noS, zzS] = [noS] ++ [zzS] from rfl, parent_path (hn2.flat zzS (by simp)).1 (hn2.flat zzS (by simp)).2]
  have hn1 : Names [noS] := ⟨by simp, fun n hn => by obtain rfl := List.mem_singleton.1 hn; exact no_name⟩
  refine ⟨put_ok hc nz_ne ht, fun x hx q => ?_, nz_ne, fun q => ?_, ?_⟩
  · have := hok x hx
    rw [q] at this
    exact path_not hn2.flat (b := zzS) (by simp) zz_not (by rw [← e]; exact this)
  · have h1 := parent_lt hc
    have q2 : parentOf ⟨#[47, 110, 111, 47, 122, 122]⟩ = ⟨#[47, 110, 111, 47, 122, 122]⟩ := q
    rw [q2] at h1
    exact Nat.lt_irrefl _ h1
  · show _ = upErr _ (findN L (parentOf ⟨#[47, 110, 111, 47, 122, 122]⟩))
    rw [hpar]
    cases hf : findN L (pathB [noS]) with
    | none => simp [upErr]
    | some y =>
      exfalso
      obtain ⟨hy, hyp⟩ := find_some hf
      have := hok y hy
      rw [hyp] at this
      exact path_not hn1.flat (b := noS) (by simp) no_not this
set_option maxRecDepth 20000 in
set_option maxHeartbeats 8000000 in
theorem treeLabels_walk (ta : Option Addr) (ct : Nat) (ts : List Lab) (ma : Option Addr) (mc : Nat) (ms : List PM) (at_ : Int) (lb : Lab) (how : Int) (w : World) (hlr : RowAt 4 lrow w ta ts) (hmr : RowM w ma ms) (hM : MaxV w) :
    Calls Tryd.prog 8 #[.slice ta ts.length ct, .slice ma ms.length mc, .int .i64 at_, lb.v, .int .i64 how] w fun e w' => e = .returned (.bool true) ∧ Below w.heap.size w w' := by
  have hund := Tryd.underlying32
  have hszN : (Tryd.prog.info? 32).map (·.size) = some 16 := by kernel_rfl
  have hsl : (Tryd.prog.info? 26).map (·.size) = some 4 := by kernel_rfl
  have kg := fun W (q1 : RowAt 4 lrow W ta ts) (q2 : RowM W ma ms) => growT_any ta ct ts ma mc ms W q1 q2
  obtain ⟨nt, hnt⟩ : ∃ nt, ts.length = nt := ⟨_, rfl⟩
  obtain ⟨nm, hnm⟩ : ∃ nm, ms.length = nm := ⟨_, rfl⟩
  rw [hnt, hnm] at kg ⊢
  clear hnt hnm
  have hb0 := blkl_alloc w #[.int .i64 lb.s, .int .i64 lb.c, .int .i64 lb.i, .int .i64 lb.k] 26
  have hB0 := alloc_below w (.cells #[.int .i64 lb.s, .int .i64 lb.c, .int .i64 lb.i, .int .i64 lb.k] 26)
  go_enter Tryd.func8, Tryd.ntmps8
  go_wp2_with fail
  generalize w.alloc (.cells #[.int .i64 lb.s, .int .i64 lb.c, .int .i64 lb.i, .int .i64 lb.k] 26) = W0 at *
  refine (tknown_any W0).mono ?_
  rintro e W1 ⟨rfl, hB1⟩
  have hB01 := Below.then hB0 hB1
  have hb1 := stab_blk _ _ _ _ hb0 hB1
  clear hb0 hB0 hB1
  go_wp2_with fail
  refine (kg W1 (hlr.below lab_ok.len hB01) (hmr.below hB01)).mono ?_
  rintro e W2 ⟨v, l, rfl, ho, hat, hnm, hB2⟩
  obtain ⟨a, c, rfl, hg2⟩ := grown_of ho hat hnm
  have hok : ∀ x ∈ namesP l, OkPath x.path := by rw [hnm]; exact grow_paths ts _
  have hB02 := Below.then hB01 hB2
  have hb2 := stab_blk _ _ _ _ hb1 hB2
  have hT := hg2.tree
  have hF := hg2.fine
  have hO : OrdP l := ordP.1 hT.ord
  have hlen := hg2.len
  have hpos := hg2.pos
  clear kg ho hat hnm hB2 hlr hmr hB01 hb1
  obtain ⟨n, hn⟩ : ∃ n, l.length = n := ⟨_, rfl⟩
  have kpt := fun (y : PN) (hy : y.Few) W (q : RowN W a l) (qa : y.At W) => tput_any a c l y (by omega) hg2.cap hO hF.few hy W q qa
  rw [hn] at hlen hpos kpt ⊢
  replace hn : Aside (l.length = n) := hn
  go_wp2_with fail
  refine (w11_any at_ (n : Int) (by omega) (by omega) W2).mono ?_
  rintro e W3 ⟨rfl, hW3⟩
  subst hW3
  obtain ⟨ix, hix⟩ : ∃ ix : Nat, at_ % (n : Int) = (ix : Int) := ⟨(at_ % (n : Int)).toNat, by have := Int.emod_nonneg at_ (show (n : Int) ≠ 0 by omega); omega⟩
  have hixn : ix < n := by have := Int.emod_lt_of_pos at_ (show (0 : Int) < n by omega); omega
  rw [hix]
  clear hix
  obtain ⟨d, hd⟩ : ∃ d, l[ix]? = some d := ⟨_, List.getElem?_eq_getElem (by rw [hn.out]; exact hixn)⟩
  have hdm := List.mem_of_getElem? hd
  have hdn : d.n ∈ namesP l := List.mem_map.2 ⟨d, hdm, rfl⟩
  obtain ⟨ya, rfl⟩ := hg2.row.some_ hd
  have hw := hg2.row.r.at pn_len hd
  have hdp := (hF.slashed d hdm).2
  have hdl := (nodC_zero.1 (hF.ok d hdm)).2.1
  obtain ⟨W4, hW4, hth4, hbd, hB4⟩ := put_new W3 ndz 32 d.cs rfl (by rw [pn_len]; omega)
  have hone := pn_one d
  have hszd : (Tryd.prog.info? 32).map (·.size) = some d.cs.length := by rw [pn_len]; exact hszN
  have hB04 := Below.then hB02 hB4
  have hbx := stab_blk _ _ _ _ hb2 hB4
  have hg4 := hg2.below hB4
  clear hB02 hB4 hb2 hg2 hd
  have i0 : (ix : Int) < (n : Int) := by omega
  go_upto_region 5 with (first | (refine wpList_load_at rfl _ rfl (ya.add (ix * 16)) rfl d.cs hw hund rfl hszd ?_) | (refine wpList_store_row rfl _ _ rfl W3.heap.size rfl d.cs rfl hth4 hszd hone hW4 ?_) | fail)
  generalize W3.heap.size = bd at *
  clear hth4 hW4 hw
  obtain ⟨Z, hZ⟩ : ∃ Z, W4 = Z := ⟨_, rfl⟩
  subst hZ
  obtain ⟨Z, hZ⟩ : ∃ Z, Z = W4 := ⟨_, rfl⟩
  subst hZ
  obtain ⟨jp, hjp⟩ : ∃ jp, joinOf d.n.path zzS = jp := ⟨_, rfl⟩
  have hJ : Aside (joinOf d.n.path zzS = jp) := hjp
  clear hjp
  simp only [Act.put]
  go_cut [13] from 27 (fun s13 wq => ∃ bn : Nat, s13 = .pointer (some ⟨bn, 0, none⟩) ∧ Below Z.heap.size Z wq ∧ Z.heap.size ≤ bn ∧ BlkL bn (PN.cs ⟨lbN jp lb, none, 0, none, 0⟩) wq)
  case first =>
    have hS0 : Below Z.heap.size Z Z.drew := (Below.refl _ _).drew
    refine wp_region_held_drew (S := (fun W => Below Z.heap.size Z W)) (by kernel_rfl) (by exact hS0) ?_
    intro hHeld
    generalize Z.drew = w0 at *
    refine wpAnyH_take (i := 0) (v := ?_) (by simp only [gA, gB, gC]; rfl) (by kernel_rfl) (by kernel_rfl) (by kernel_rfl) (by exact fun _ _ _ h => h) (Or.inl ⟨by rfl, ?_⟩) (by assumption) ?_; rotate_left; (focus (intro w hSw; (try dsimp only at hSw); go_simp; try with_reducible rfl)); (try simp only [Act.put, sA, sB, sC])
    refine wpAnyH_take (i := 1) (v := _) (by simp only [gA, gB, gC]; rfl) (by kernel_rfl) (by kernel_rfl) (by kernel_rfl) (by exact fun _ _ _ h => h) (yields_one (by rfl) _ rfl ⟨bd, 0, none⟩ rfl (.string d.n.path) (fun _ q => ((stab_blk _ _ _ _ hbd q).1 0 _ rfl).1) str_load) (by assumption) ?_; (try simp only [Act.put, sA, sB, sC])
    refine wpAnyH_take (i := 3) (v := _) (by simp only [gA, gB, gC]; rfl) (by kernel_rfl) (by kernel_rfl) (by kernel_rfl) (by exact fun _ _ _ h => h) (yields_row (by rfl) _ rfl w.heap.size rfl [.int .i64 lb.s, .int .i64 lb.c, .int .i64 lb.i, .int .i64 lb.k] (fun _ q => (stab_blk _ _ _ _ hbx q).range) Tryd.underlying26 rfl hsl) (by assumption) ?_; (try simp only [Act.put, sA, sB, sC])
    refine wpAnyH_ready (rs := [2, 6]) (by kernel_rfl) (by simp) ?_
    refine AllReadyH.cons (by simp only [gA, gB, gC]; rfl) (fun K hK => ?_) ?_
    · go_simp
      go_at_call 30
      refine (rjoin_any d.n.path zzS (by omega) (by decide) _).mono ?_
      rintro e w1 ⟨rfl, hww⟩
      have hbb : Below w0.heap.size w0 w1 := by rw [hww]; exact Below.refl _ _
      have hS1 := Below.then hS0 hbb
      rw [hJ.out]
      clear hbb hww
      refine hK.out _ _ (hS1) ?_
      clear hHeld hK
      intro hHeld
      (try simp only [Act.put, sA, sB, sC])
      refine wpAnyH_ready (rs := [4, 6]) (by kernel_rfl) (by simp) ?_
      refine AllReadyH.cons (by simp only [gA, gB, gC]; rfl) (fun K hK => ?_) ?_
      · go_simp
        go_at_call 15
        refine (good_any lb _).mono ?_
        rintro e w2 ⟨rfl, hbb⟩
        have hS2 := Below.then hS1 hbb
        clear hbb
        refine hK.out _ _ (hS2) ?_
        clear hHeld hK
        intro hHeld
        (try simp only [Act.put, sA, sB, sC])
        refine wpAnyH_take (i := 5) (v := ?_) (by simp only [gA, gB, gC]; rfl) (by kernel_rfl) (by kernel_rfl) (by kernel_rfl) (by exact fun _ _ _ h => h) (Or.inl ⟨by rfl, ?_⟩) (by assumption) ?_; rotate_left; (focus (intro w hSw; (try dsimp only at hSw); go_simp; try with_reducible rfl)); (try simp only [Act.put, sA, sB, sC])
        refine wpAnyH_ready (rs := [6]) (by kernel_rfl) (by simp) ?_
        refine AllReadyH.cons (by simp only [gA, gB, gC]; rfl) (fun K hK => ?_) AllReadyH.nil
        go_simp
        refine hK.out _ _ (Below.then hS2 (alloc_below _ _)) ?_
        clear hHeld hK
        intro hHeld
        have hb3 := blkl_alloc w2 ndz 32
        have hS3 := Below.then hS2 (alloc_below w2 (.cells ndz 32))
        have hbn : Z.heap.size ≤ w2.heap.size := hS2.size
        generalize hwx : w2.alloc (.cells ndz 32) = w3 at *
        clear hwx
        generalize w2.heap.size = bn at *
        (try simp only [Act.put, sA, sB, sC])
        refine wpAnyH_ready (rs := [7]) (by kernel_rfl) (by simp) ?_
        refine AllReadyH.cons (by simp only [gA, gB, gC]; rfl) (fun K hK => ?_) AllReadyH.nil
        obtain ⟨wz, hwz, hth, hbz, hBz⟩ := put_mid hb3 0 (PN.cs ⟨lbN jp lb, none, 0, none, 0⟩) (by rw [pn_len]; decide) (by decide) hS3 hbn
        rw [set_all] at hbz
        refine step_store_part rfl _ _ rfl bn 0 rfl (PN.cs ⟨lbN jp lb, none, 0, none, 0⟩) rfl hth hszN (pn_one _) hwz ?_
        (try simp only [Act.put, sA, sB, sC])
        refine hK.out _ _ (hBz) ?_
        clear hHeld hK
        intro hHeld
        (try simp only [Act.put, sA, sB, sC])
        refine wpAnyH_done (by kernel_rfl) ?_ _
        go_wp2_with fail
        go_meet
        exact ⟨bn, rfl, hBz, hbn, hbz⟩
      refine AllReadyH.cons (by simp only [gA, gB, gC]; rfl) (fun K hK => ?_) AllReadyH.nil
      go_simp
      refine hK.out _ _ (Below.then hS1 (alloc_below _ _)) ?_
      clear hHeld hK
      intro hHeld
      have hb2 := blkl_alloc w1 ndz 32
      have hS2 := Below.then hS1 (alloc_below w1 (.cells ndz 32))
      have hbn : Z.heap.size ≤ w1.heap.size := hS1.size
      generalize hwx : w1.alloc (.cells ndz 32) = w2 at *
      clear hwx
      generalize w1.heap.size = bn at *
      (try simp only [Act.put, sA, sB, sC])
      refine wpAnyH_ready (rs := [4]) (by kernel_rfl) (by simp) ?_
      refine AllReadyH.cons (by simp only [gA, gB, gC]; rfl) (fun K hK => ?_) AllReadyH.nil
      go_simp
      go_at_call 15
      refine (good_any lb _).mono ?_
      rintro e w3 ⟨rfl, hbb⟩
      have hS3 := Below.then hS2 hbb
      have hb3 := stab_blk _ _ _ _ hb2 hbb
      clear hbb
      refine hK.out _ _ (hS3) ?_
      clear hHeld hK
      intro hHeld
      (try simp only [Act.put, sA, sB, sC])
      refine wpAnyH_take (i := 5) (v := ?_) (by simp only [gA, gB, gC]; rfl) (by kernel_rfl) (by kernel_rfl) (by kernel_rfl) (by exact fun _ _ _ h => h) (Or.inl ⟨by rfl, ?_⟩) (by assumption) ?_; rotate_left; (focus (intro w hSw; (try dsimp only at hSw); go_simp; try with_reducible rfl)); (try simp only [Act.put, sA, sB, sC])
      refine wpAnyH_ready (rs := [7]) (by kernel_rfl) (by simp) ?_
      refine AllReadyH.cons (by simp only [gA, gB, gC]; rfl) (fun K hK => ?_) AllReadyH.nil
      obtain ⟨wz, hwz, hth, hbz, hBz⟩ := put_mid hb3 0 (PN.cs ⟨lbN jp lb, none, 0, none, 0⟩) (by rw [pn_len]; decide) (by decide) hS3 hbn
      rw [set_all] at hbz
      refine step_store_part rfl _ _ rfl bn 0 rfl (PN.cs ⟨lbN jp lb, none, 0, none, 0⟩) rfl hth hszN (pn_one _) hwz ?_
      (try simp only [Act.put, sA, sB, sC])
      refine hK.out _ _ (hBz) ?_
      clear hHeld hK
      intro hHeld
      (try simp only [Act.put, sA, sB, sC])
      refine wpAnyH_done (by kernel_rfl) ?_ _
      go_wp2_with fail
      go_meet
      exact ⟨bn, rfl, hBz, hbn, hbz⟩
    refine AllReadyH.cons (by simp only [gA, gB, gC]; rfl) (fun K hK => ?_) AllReadyH.nil
    go_simp
    refine hK.out _ _ (Below.then hS0 (alloc_below _ _)) ?_
    clear hHeld hK
    intro hHeld
    have hb1 := blkl_alloc w0 ndz 32
    have hS1 := Below.then hS0 (alloc_below w0 (.cells ndz 32))
    have hbn : Z.heap.size ≤ w0.heap.size := hS0.size
    generalize hwx : w0.alloc (.cells ndz 32) = w1 at *
    clear hwx
    generalize w0.heap.size = bn at *
    (try simp only [Act.put, sA, sB, sC])
    refine wpAnyH_ready (rs := [2]) (by kernel_rfl) (by simp) ?_
    refine AllReadyH.cons (by simp only [gA, gB, gC]; rfl) (fun K hK => ?_) AllReadyH.nil
    go_simp
    go_at_call 30
    refine (rjoin_any d.n.path zzS (by omega) (by decide) _).mono ?_
    rintro e w2 ⟨rfl, hww⟩
    have hbb : Below w1.heap.size w1 w2 := by rw [hww]; exact Below.refl _ _
    have hS2 := Below.then hS1 hbb
    have hb2 := stab_blk _ _ _ _ hb1 hbb
    rw [hJ.out]
    clear hbb hww
    refine hK.out _ _ (hS2) ?_
    clear hHeld hK
    intro hHeld
    (try simp only [Act.put, sA, sB, sC])
    refine wpAnyH_ready (rs := [4]) (by kernel_rfl) (by simp) ?_
    refine AllReadyH.cons (by simp only [gA, gB, gC]; rfl) (fun K hK => ?_) AllReadyH.nil
    go_simp
    go_at_call 15
    refine (good_any lb _).mono ?_
    rintro e w3 ⟨rfl, hbb⟩
    have hS3 := Below.then hS2 hbb
    have hb3 := stab_blk _ _ _ _ hb2 hbb
    clear hbb
    refine hK.out _ _ (hS3) ?_
    clear hHeld hK
    intro hHeld
    (try simp only [Act.put, sA, sB, sC])
    refine wpAnyH_take (i := 5) (v := ?_) (by simp only [gA, gB, gC]; rfl) (by kernel_rfl) (by kernel_rfl) (by kernel_rfl) (by exact fun _ _ _ h => h) (Or.inl ⟨by rfl, ?_⟩) (by assumption) ?_; rotate_left; (focus (intro w hSw; (try dsimp only at hSw); go_simp; try with_reducible rfl)); (try simp only [Act.put, sA, sB, sC])
    refine wpAnyH_ready (rs := [7]) (by kernel_rfl) (by simp) ?_
    refine AllReadyH.cons (by simp only [gA, gB, gC]; rfl) (fun K hK => ?_) AllReadyH.nil
    obtain ⟨wz, hwz, hth, hbz, hBz⟩ := put_mid hb3 0 (PN.cs ⟨lbN jp lb, none, 0, none, 0⟩) (by rw [pn_len]; decide) (by decide) hS3 hbn
    rw [set_all] at hbz
    refine step_store_part rfl _ _ rfl bn 0 rfl (PN.cs ⟨lbN jp lb, none, 0, none, 0⟩) rfl hth hszN (pn_one _) hwz ?_
    (try simp only [Act.put, sA, sB, sC])
    refine hK.out _ _ (hBz) ?_
    clear hHeld hK
    intro hHeld
    (try simp only [Act.put, sA, sB, sC])
    refine wpAnyH_done (by kernel_rfl) ?_ _
    go_wp2_with fail
    go_meet
    exact ⟨bn, rfl, hBz, hbn, hbz⟩
  case rest =>
    obtain ⟨bn, rfl, hBz, hbn, hbz⟩ := hcut
    have hjs : jp.size ≤ 100000 := by
      rw [← hJ.out]
      obtain ⟨ns, hnn, e⟩ := hT.names hdn
      have h78 : d.n.path.size ≤ 78 := by obtain ⟨_, _, _, q⟩ := check_path (nodC_zero.1 (hF.ok d hdm)).1; exact q
      have hz2 : zzS.size = 2 := rfl
      have h1 : slashS.size = 1 := rfl
      unfold joinOf
      split <;> (repeat rw [ByteArray.size_append]) <;> omega
    have hc0 := (hbz.1 0 _ rfl).1
    go_wp2_with fail
    refine (rpcheck_any jp hjs wc).mono ?_
    rintro e W5 ⟨rfl, hB5⟩
    have hBz5 := Below.then hBz hB5
    have hbz5 := stab_blk _ _ _ _ hbz hB5
    have hfin0 := Below.then hB04 hBz5
    clear hBz hbz hc0 hB5
    by_cases hck : checkOf jp = 0
    · rw [hck]
      have hck' : checkOf (joinOf d.n.path zzS) = 0 := by rw [hJ.out]; exact hck
      have hz0 := lb_zero hT hok hdn hck' (goodL lb) (good_GL lb)
      have hz1 := lb_one hT hok hdn hck' (goodL lb) (good_GL lb)
      have hz2 := lb_two hT hok d.n (goodL lb) (good_GL lb)
      have hz3 := lb_zero hT hok hdn hck' d.n.label hdl
      rw [rov_self hdl, if_pos rfl] at hz3
      rw [hJ.out] at hz0 hz1 hz3
      clear hck'
      go_wp2_with fail
      refine (w11_any how 4 (by decide) (by decide) W5).mono ?_
      rintro e W6 ⟨rfl, hW6⟩
      subst hW6
      have hh0 := Int.emod_nonneg how (show (4 : Int) ≠ 0 by decide)
      have hh4 := Int.emod_lt_of_pos how (show (0 : Int) < 4 by decide)
      obtain ⟨hm, hhm⟩ : ∃ hm, how % 4 = hm := ⟨_, rfl⟩
      rw [hhm] at hh0 hh4 ⊢
      clear hhm
      go_upto_block 0 with fail
      have hL1 : CellsAt W6 ⟨bn, 2, none⟩ [.int .i64 (goodL lb).s, .int .i64 (goodL lb).c, .int .i64 (goodL lb).i, .int .i64 (goodL lb).k] := blk_four hbz5.1 rfl rfl rfl rfl
      have hbd5 := stab_blk _ _ _ _ hbd hBz5
      have hL2 : CellsAt W6 ⟨bd, 2, none⟩ [.int .i64 d.n.label.s, .int .i64 d.n.label.c, .int .i64 d.n.label.i, .int .i64 d.n.label.k] := blk_four hbd5.1 rfl rfl rfl rfl
      go_cut [14] from 27 (fun s14 wq => ∃ (NN : Nod) (want : Int), s14 = .int .i64 want ∧ Below Z.heap.size Z wq ∧ BlkL bn (PN.cs ⟨NN, none, 0, none, 0⟩) wq ∧ LbOk (namesP l) d.n NN want ∧ NN.acl = [] ∧ NN.words = [])
      case first =>
        rcases (show hm = 0 ∨ hm = 1 ∨ hm = 2 ∨ hm = 3 by omega) with rfl | rfl | rfl | rfl
        · go_wp2_with (first | (refine wpList_load_at rfl _ rfl ⟨bn, 2, none⟩ rfl [.int .i64 (goodL lb).s, .int .i64 (goodL lb).c, .int .i64 (goodL lb).i, .int .i64 (goodL lb).k] hL1 Tryd.underlying26 rfl hsl ?_) | (refine wpList_load_at rfl _ rfl ⟨bd, 2, none⟩ rfl [.int .i64 d.n.label.s, .int .i64 d.n.label.c, .int .i64 d.n.label.i, .int .i64 d.n.label.k] hL2 Tryd.underlying26 rfl hsl ?_) | fail)
          refine (lawover_any (goodL lb) d.n.label W6).mono ?_
          rintro e W7 ⟨rfl, hB7⟩
          have hbz7 := stab_blk _ _ _ _ hbz5 hB7
          have hBz7 := Below.then hBz5 hB7
          cases hr : rov (goodL lb) d.n.label
          · rw [hr, if_neg (by decide)] at hz0
            go_wp2_with fail
            go_meet
            exact ⟨_, 15, rfl, hBz7, hbz7, hz0, rfl, rfl⟩
          · rw [hr, if_pos rfl] at hz0
            go_wp2_with fail
            go_meet
            exact ⟨_, 0, rfl, hBz7, hbz7, hz0, rfl, rfl⟩
        · obtain ⟨c11, c12⟩ := hbz5.1 1 _ rfl
          have hk7 := hbz5.1.set 1 (.bool false) (by rw [pn_len]; decide)
          have hM1 : CellsAt (W6.setCell ⟨bn, 1, none⟩ (.bool false)) ⟨bn, 2, none⟩ [.int .i64 (goodL lb).s, .int .i64 (goodL lb).c, .int .i64 (goodL lb).i, .int .i64 (goodL lb).k] := blk_four hk7 rfl rfl rfl rfl
          have hdz := hbd.2
          have hM2 : CellsAt (W6.setCell ⟨bn, 1, none⟩ (.bool false)) ⟨bd, 2, none⟩ [.int .i64 d.n.label.s, .int .i64 d.n.label.c, .int .i64 d.n.label.i, .int .i64 d.n.label.k] := blk_four (hbd5.1.same (heap_setCell_other W6 ⟨bn, 1, none⟩ bd _ (by show bd ≠ bn; omega))) rfl rfl rfl rfl
          have hBz7 : Below Z.heap.size Z (W6.setCell ⟨bn, 1, none⟩ (.bool false)) := hBz5.setCell (p := ⟨bn, 1, none⟩) hbn _
          have hbz7 : BlkL bn (PN.cs ⟨⟨jp, false, goodL lb, [], 0, 0, 0, 0, [], ⟨0, 0, 0, 0⟩⟩, none, 0, none, 0⟩) (W6.setCell ⟨bn, 1, none⟩ (.bool false)) := ⟨hk7, by simpa using hbz5.2⟩
          have hnq := run_neq_lab (goodL lb) d.n.label
          replace hnq : ∀ W, (binOp .neq 26 (.agg #[.int .i64 (goodL lb).s, .int .i64 (goodL lb).c, .int .i64 (goodL lb).i, .int .i64 (goodL lb).k]) (.agg #[.int .i64 d.n.label.s, .int .i64 d.n.label.c, .int .i64 d.n.label.i, .int .i64 d.n.label.k])).run Tryd.prog W = .ok (.bool (!labEq (goodL lb) d.n.label)) W := hnq
          clear hL1 hL2 hk7
          obtain ⟨W7, hW7⟩ : ∃ W7, W6.setCell ⟨bn, 1, none⟩ (.bool false) = W7 := ⟨_, rfl⟩
          rw [hW7] at hM1 hM2 hBz7 hbz7
          cases hr : labEq (goodL lb) d.n.label
          · rw [hr, if_neg (by decide)] at hz1
            rw [hr] at hnq
            go_wp2_with (first | (refine wpList_load_at rfl _ rfl ⟨bn, 2, none⟩ rfl [.int .i64 (goodL lb).s, .int .i64 (goodL lb).c, .int .i64 (goodL lb).i, .int .i64 (goodL lb).k] hM1 Tryd.underlying26 rfl hsl ?_) | (refine wpList_load_at rfl _ rfl ⟨bd, 2, none⟩ rfl [.int .i64 d.n.label.s, .int .i64 d.n.label.c, .int .i64 d.n.label.i, .int .i64 d.n.label.k] hM2 Tryd.underlying26 rfl hsl ?_) | fail)
            go_meet
            exact ⟨_, 15, rfl, hBz7, hbz7, hz1, rfl, rfl⟩
          · rw [hr, if_pos rfl] at hz1
            rw [hr] at hnq
            go_wp2_with (first | (refine wpList_load_at rfl _ rfl ⟨bn, 2, none⟩ rfl [.int .i64 (goodL lb).s, .int .i64 (goodL lb).c, .int .i64 (goodL lb).i, .int .i64 (goodL lb).k] hM1 Tryd.underlying26 rfl hsl ?_) | (refine wpList_load_at rfl _ rfl ⟨bd, 2, none⟩ rfl [.int .i64 d.n.label.s, .int .i64 d.n.label.c, .int .i64 d.n.label.i, .int .i64 d.n.label.k] hM2 Tryd.underlying26 rfl hsl ?_) | fail)
            go_meet
            exact ⟨_, 0, rfl, hBz7, hbz7, hz1, rfl, rfl⟩
        · obtain ⟨c01, c02⟩ := hbz5.1 0 _ rfl
          have hk7 := hbz5.1.set 0 (.string ⟨#[47, 110, 111, 47, 122, 122]⟩) (by rw [pn_len]; decide)
          have hBz7 : Below Z.heap.size Z (W6.setCell ⟨bn, 0, none⟩ (.string ⟨#[47, 110, 111, 47, 122, 122]⟩)) := hBz5.setCell (p := ⟨bn, 0, none⟩) hbn _
          have hbz7 : BlkL bn (PN.cs ⟨⟨⟨#[47, 110, 111, 47, 122, 122]⟩, true, goodL lb, [], 0, 0, 0, 0, [], ⟨0, 0, 0, 0⟩⟩, none, 0, none, 0⟩) (W6.setCell ⟨bn, 0, none⟩ (.string ⟨#[47, 110, 111, 47, 122, 122]⟩)) := ⟨hk7, by simpa using hbz5.2⟩
          clear hL1 hL2 hk7
          go_wp2_with fail
          go_meet
          exact ⟨_, 2, rfl, hBz7, hbz7, hz2, rfl, rfl⟩
        · obtain ⟨W7, hW7, hth7, hN7, hBz7⟩ := put_mid hbz5 2 [.int .i64 d.n.label.s, .int .i64 d.n.label.c, .int .i64 d.n.label.i, .int .i64 d.n.label.k] (by rw [pn_len]; simp) (by rw [pn_len]; decide) hBz5 hbn
          have hbz7 : BlkL bn (PN.cs ⟨⟨jp, true, d.n.label, [], 0, 0, 0, 0, [], ⟨0, 0, 0, 0⟩⟩, none, 0, none, 0⟩) W7 := hN7
          have hone4 : ∀ v ∈ ([.int .i64 d.n.label.s, .int .i64 d.n.label.c, .int .i64 d.n.label.i, .int .i64 d.n.label.k] : List Value), v.oneCell' = true := lab_ok.one d.n.label
          go_wp2_with (first | (refine wpList_load_at rfl _ rfl ⟨bd, 2, none⟩ rfl [.int .i64 d.n.label.s, .int .i64 d.n.label.c, .int .i64 d.n.label.i, .int .i64 d.n.label.k] hL2 Tryd.underlying26 rfl hsl ?_) | (refine wpList_store_part rfl _ _ rfl bn 2 rfl [.int .i64 d.n.label.s, .int .i64 d.n.label.c, .int .i64 d.n.label.i, .int .i64 d.n.label.k] rfl hth7 hsl hone4 hW7 ?_) | fail)
          go_meet
          exact ⟨_, 0, rfl, hBz7, hbz7, hz3, rfl, rfl⟩
      case rest =>
        obtain ⟨NN, want, rfl, hBq, hbq, hL, hna, hnw⟩ := hcut
        obtain ⟨y, hy⟩ : ∃ y : PN, y = ⟨NN, none, 0, none, 0⟩ := ⟨_, rfl⟩
        have hbq' : BlkL bn y.cs wc := by rw [hy]; exact hbq
        have hyr := hbq'.range
        have hszy : (Tryd.prog.info? 32).map (·.size) = some y.cs.length := by rw [pn_len]; exact hszN
        have hyf : y.Few := by rw [hy]; exact ⟨by show NN.acl.length ≤ 1000; rw [hna]; decide, by show NN.words.length ≤ 1000; rw [hnw]; decide⟩
        have hya : y.At wc := by rw [hy]; exact ⟨fun j q hq => by rw [show (PN.n ⟨NN, none, 0, none, 0⟩).acl = [] from hna] at hq; simp at hq, fun j q hq => by rw [show (PN.n ⟨NN, none, 0, none, 0⟩).words = [] from hnw] at hq; simp at hq⟩
        have hyn : y.n = NN := by rw [hy]
        have hgc := hg4.below hBq
        have hBc := Below.then hB04 hBq
        have hd1 := ((stab_blk _ _ _ _ hbd hBq).1 1 _ rfl).1
        have hwr := hT.wrong hL.ok hL.new hL.ns hL.par
        have hres := hL.res
        have hlen8 : ∀ l8 : List PN, namesP l8 = putN (namesP l) y.n → l8.length ≤ 100000 := fun l8 q => by
          have h1 := congrArg List.length q
          have h2 := putN_len (namesP l) y.n
          simp only [namesP, List.length_map] at h1 h2
          have := hn.out
          omega
        have hfine8 : ∀ l8 : List PN, namesP l8 = putN (namesP l) y.n → Fine l8 := fun l8 q => ⟨fun x hx => by
          have h1 : x.n ∈ namesP l8 := List.mem_map.2 ⟨x, hx, rfl⟩
          rw [q, hyn] at h1
          rcases put_mem.1 h1 with h1 | ⟨h1, _⟩
          · rw [h1]; exact hL.ok
          · exact hT.ok x.n h1⟩
        rw [← hyn] at hwr hres
        clear hy hbq hbq' hyn hL hna hnw hz0 hz1 hz2 hz3 hL1 hL2 hbd5 hbz5 hBz5 hfin0
        cases hdd : d.n.dir
        · rw [hdd] at hd1 hres
          by_cases hw2 : want = 2
          · subst hw2
            rw [if_neg (by simp)] at hres
            go_wp2_with (first | (refine wpList_load_row rfl _ rfl bn rfl y.cs hyr hund rfl hszy ?_) | fail)
            refine (kpt y hyf wc hgc.row hya).mono ?_
            rintro e W8 ⟨v8, l8, rfl, ho8, hn8, ha8, hb8⟩
            obtain ⟨a8, c8, rfl, -, -, hr8⟩ := OwnR.slice pn_len ho8
            have kc := tcheck_any a8 c8 l8 (hlen8 l8 hn8) (hfine8 l8 hn8).small W8 ⟨hr8, ha8⟩ ((hM.below hBc).below hb8)
            rw [hn8, hwr, ← hres] at kc
            go_wp2_with fail
            refine kc.mono ?_
            rintro e W9 ⟨rfl, hb9⟩
            go_wp2_with fail
            go_ret
            exact ⟨by simp, Below.then (Below.then hBc hb8) hb9⟩
          · rw [if_pos ⟨rfl, hw2⟩] at hres
            replace hres : Aside _ := hres
            go_wp2_with (first | (refine wpList_load_row rfl _ rfl bn rfl y.cs hyr hund rfl hszy ?_) | fail)
            refine (kpt y hyf wc hgc.row hya).mono ?_
            rintro e W8 ⟨v8, l8, rfl, ho8, hn8, ha8, hb8⟩
            obtain ⟨a8, c8, rfl, -, -, hr8⟩ := OwnR.slice pn_len ho8
            have kc := tcheck_any a8 c8 l8 (hlen8 l8 hn8) (hfine8 l8 hn8).small W8 ⟨hr8, ha8⟩ ((hM.below hBc).below hb8)
            rw [hn8, hwr, ← hres.out] at kc
            go_wp2_with fail
            refine kc.mono ?_
            rintro e W9 ⟨rfl, hb9⟩
            go_wp2_with fail
            go_ret
            exact ⟨by simp, Below.then (Below.then hBc hb8) hb9⟩
        · rw [hdd] at hd1 hres
          rw [if_neg (by simp)] at hres
          replace hres : Aside _ := hres
          go_wp2_with (first | (refine wpList_load_row rfl _ rfl bn rfl y.cs hyr hund rfl hszy ?_) | fail)
          refine (kpt y hyf wc hgc.row hya).mono ?_
          rintro e W8 ⟨v8, l8, rfl, ho8, hn8, ha8, hb8⟩
          obtain ⟨a8, c8, rfl, -, -, hr8⟩ := OwnR.slice pn_len ho8
          have kc := tcheck_any a8 c8 l8 (hlen8 l8 hn8) (hfine8 l8 hn8).small W8 ⟨hr8, ha8⟩ ((hM.below hBc).below hb8)
          rw [hn8, hwr, ← hres.out] at kc
          go_wp2_with fail
          refine kc.mono ?_
          rintro e W9 ⟨rfl, hb9⟩
          go_wp2_with fail
          go_ret
          exact ⟨by simp, Below.then (Below.then hBc hb8) hb9⟩
    · go_wp2_with fail
      go_ret
      exact ⟨rfl, hfin0⟩
end Go.Proofs.YtacjfbomjglnjaaDoor
