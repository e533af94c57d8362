/-
  PART 6 of what ProcSplits leans on: PcPm ProcAcc PcSteps PcRun PcOne PcMade PcNew MakeE PcKnoP PcLaw PcKno PcRunF CpuRef4 CpuStH ProcRun PcLimits PcSpI PcLaw2 PcSplits.
-/
import Derived.Deep.Cut
import Derived.Deep.CutRange
import Derived.Deep.RegionHeld
import Derived.Test.YtidihdiffiffmaaGreatDoorProcSplitsP5
namespace Go.Proofs.YtidihdiffiffmaaGreatDoor
open Go.RowKit
set_option maxRecDepth 8000
set_option linter.unusedSimpArgs false
set_option linter.unusedVariables false
def setP (p : ByteArray) (o : Nat) (v : Int) (x : PN) : PN := { x with n := setN p o v x.n }
theorem setP_names (l : List PN) (p : ByteArray) (o : Nat) (v : Int) : namesP (l.map (setP p o v)) = setW (namesP l) p o v := by
  unfold namesP setW
  rw [List.map_map, List.map_map]
  rfl
theorem setP_wv (p : ByteArray) (o : Nat) (v : Int) (x : PN) : (setP p o v x).wv = x.wv := by
  unfold PN.wv setP
  simp only [setN_len]
theorem setP_av (p : ByteArray) (o : Nat) (v : Int) (x : PN) : (setP p o v x).av = x.av := by
  unfold PN.av setP
  simp only [setN_acl]
theorem setP_cs (p : ByteArray) (o : Nat) (v : Int) (x : PN) : (setP p o v x).cs = x.cs := by
  unfold setP
  rw [setN_same]
  unfold PN.cs nclT
  simp only [setN_len]
theorem findP_set (l : List PN) (p : ByteArray) (o : Nat) (v : Int) (q : ByteArray) : findP (l.map (setP p o v)) q = (findP l q).map (setP p o v) := by
  unfold findP
  rw [List.find?_map]
  congr 1
  congr 1
  funext x
  show eqs (setN p o v x.n).path q = eqs x.n.path q
  rw [setN_path]
theorem segP_set (L : List Nod) (p : ByteArray) (o : Nat) (v : Int) (u : ByteArray) (t : Lab) (q : ByteArray) (hz : eqs (⟨#[]⟩ : ByteArray) p = false) : (segP (setW L p o v) u t q).is = (segP L u t q).is ∧ (segP (setW L p o v) u t q).md = (segP L u t q).md ∧ (segP (setW L p o v) u t q).rg = (segP L u t q).rg ∧ (segP (setW L p o v) u t q).ws.length = (segP L u t q).ws.length := by
  unfold segP
  rw [see_set, got_set L p o v q hz, setN_dir, setN_rg, mods_set]
  by_cases h : seeE L t q ≠ 0 ∨ (gotN L q).dir = true
  · rw [if_pos h, if_pos h]
    exact ⟨rfl, rfl, rfl, rfl⟩
  · rw [if_neg h, if_neg h]
    exact ⟨rfl, rfl, rfl, setN_len p o v _⟩
theorem segQ_v (l : List PN) (u : ByteArray) (t : Lab) (q : ByteArray) (h : (segP (namesP l) u t q).is = true) : segQ l u t q = ⟨segP (namesP l) u t q, (gotP l q).wa, (gotP l q).cw⟩ ∧ (segQ l u t q).v = (gotP l q).wv ∧ (segQ l u t q).g.ws = (gotP l q).n.words := by
  obtain ⟨h1, h2, h3⟩ := seg_is h
  have e : segQ l u t q = ⟨segP (namesP l) u t q, (gotP l q).wa, (gotP l q).cw⟩ := by
    unfold segQ
    rw [if_neg (by rw [h1, h2]; simp)]
  refine ⟨e, ?_, ?_⟩
  · rw [e]
    unfold PG.v PN.wv
    simp only [h3, gotP_n]
  · rw [e]
    simp only [h3, gotP_n]
theorem gotP_find {l : List PN} {t : Lab} {q : ByteArray} (h : seeE (namesP l) t q = 0) : findP l q = some (gotP l q) ∧ gotP l q ∈ l ∧ eqs (gotP l q).n.path q = true := by
  obtain ⟨_, _, x, hx⟩ := see_zero.1 h
  rw [find_names] at hx
  obtain ⟨d, hd, _⟩ := Option.map_eq_some_iff.1 hx
  have e : gotP l q = d := by
    unfold gotP
    rw [hd]
    rfl
  rw [e]
  exact ⟨hd, List.mem_of_find?_eq_some hd, List.find?_some (p := fun x : PN => eqs x.n.path q) hd⟩
theorem segV_set (l : List PN) (p : ByteArray) (o : Nat) (v : Int) (u : ByteArray) (t : Lab) (q : ByteArray) (hz : eqs (⟨#[]⟩ : ByteArray) p = false) : (segQ (l.map (setP p o v)) u t q).g.is = (segQ l u t q).g.is ∧ sg6 (segQ (l.map (setP p o v)) u t q).g (segQ (l.map (setP p o v)) u t q).v = sg6 (segQ l u t q).g (segQ l u t q).v := by
  have h1 := segP_set (namesP l) p o v u t q hz
  rw [← setP_names] at h1
  rw [segQ_g, segQ_g]
  refine ⟨h1.1, ?_⟩
  cases hi : (segP (namesP l) u t q).is
  · have e1 : segQ l u t q = zeroPG := by
      unfold segQ
      unfold segP at hi
      by_cases h : seeE (namesP l) t q ≠ 0 ∨ (gotN (namesP l) q).dir = true
      · rw [if_pos h]
      · rw [if_neg h] at hi; cases hi
    have e2 : segQ (l.map (setP p o v)) u t q = zeroPG := by
      have hi' := h1.1
      rw [hi] at hi'
      unfold segQ
      unfold segP at hi'
      by_cases h : seeE (namesP (l.map (setP p o v))) t q ≠ 0 ∨ (gotN (namesP (l.map (setP p o v))) q).dir = true
      · rw [if_pos h]
      · rw [if_neg h] at hi'; cases hi'
    have g1 := segQ_g l u t q
    have g2 := segQ_g (l.map (setP p o v)) u t q
    rw [e1] at g1
    rw [e2] at g2
    rw [e1, e2, ← g1, ← g2]
  · have hi' := h1.1
    rw [hi] at hi'
    have hsee := (seg_is hi).1
    obtain ⟨-, v1, -⟩ := segQ_v l u t q hi
    obtain ⟨-, v2, -⟩ := segQ_v (l.map (setP p o v)) u t q hi'
    rw [v1, v2]
    have hg : gotP (l.map (setP p o v)) q = setP p o v (gotP l q) := by
      unfold gotP
      rw [findP_set, (gotP_find hsee).1]
      rfl
    rw [hg, setP_wv]
    unfold sg6
    rw [h1.2.1, h1.2.2.1]
theorem knP_map (f : ByteArray → PG) (bs : List ByteArray) (k : Int) : knP (bs.map f) k = if k < 0 then zeroPG else ((bs[k.toNat]?).map f).getD zeroPG := by
  unfold knP
  by_cases h : k < 0
  · rw [if_pos h, if_pos h]
  · rw [if_neg h, if_neg h, List.getD_eq_getElem?_getD, List.getElem?_map]
theorem two_of {α : Type} {R : α → α → Prop} : ∀ {l : List α}, l.Pairwise R → ∀ {x y : α}, x ∈ l → y ∈ l → x = y ∨ R x y ∨ R y x
  | [], _, _, _, h, _ => by cases h
  | a :: r, hp, x, y, hx, hy => by
    obtain ⟨h1, h2⟩ := List.pairwise_cons.1 hp
    rcases List.mem_cons.1 hx with rfl | hx' <;> rcases List.mem_cons.1 hy with rfl | hy'
    · exact .inl rfl
    · exact .inr (.inl (h1 _ hy'))
    · exact .inr (.inr (h1 _ hx'))
    · exact two_of h2 hx' hy'
structure PMq (W : World) (B L0 bm n : Nat) (u : ByteArray) (t : Lab) (bs : List ByteArray) (l : List PN) : Prop where
  ln : l.length = n
  row : OwnN W B (.slice (some ⟨B, 0, none⟩) n n) l
  own : OwnX W (B + 1) l
  lo : ∀ y ∈ l, ∀ g, (y.av.ownBlock = some g ∨ y.wv.ownBlock = some g) → g < L0
  map : MapI W bm (segV (bs.map (segQ l u t))) (fun k => (kn ((bs.map (segQ l u t)).map (·.g)) k).is)
  bm : L0 ≤ bm
  B0 : B < L0
section
variable {W W' : World} {B L0 bm n : Nat} {u : ByteArray} {t : Lab} {bs : List ByteArray} {l : List PN}
theorem PMq.keep (h : PMq W B L0 bm n u t bs l) (hb : ∀ j, (B ≤ j ∧ j < L0) ∨ j = bm → W'.heap[j]? = W.heap[j]?) : PMq W' B L0 bm n u t bs l := by
  refine ⟨h.ln, h.row.keep fun k hk => ?_, ⟨fun x hx => (h.own.acl x hx).keep fun k hk => hb k (.inl ⟨?_, h.lo x hx k (.inl hk)⟩), fun x hx => (h.own.wds x hx).keep fun k hk => hb k (.inl ⟨?_, h.lo x hx k (.inr hk)⟩), h.own.dis, h.own.apt⟩, h.lo, h.map.same (hb bm (.inr rfl)), h.bm, h.B0⟩
  · have e : B = k := by simpa [Value.ownBlock] using hk
    exact hb k (.inl ⟨by omega, by have := h.B0; omega⟩)
  · have := ((h.own.acl x hx).lt hk).1
    omega
  · have := ((h.own.wds x hx).lt hk).1
    omega
theorem PMq.below (h : PMq W B L0 bm n u t bs l) (hb : Below W.heap.size W W') : PMq W' B L0 bm n u t bs l := h.keep fun j hj => hb.block j (by
  have := h.map.lt
  have := h.bm
  omega)
theorem PMq.rowN (h : PMq W B L0 bm n u t bs l) : RowN W (some ⟨B, 0, none⟩) l := by
  obtain ⟨a, c, hv, -, -, hr⟩ := h.row.slice pn_len
  injection hv with e1 e2 e3
  subst e1
  refine ⟨hr, fun x hx => ⟨?_, ?_⟩⟩
  · obtain ⟨a1, c1, h1, -, -, h2⟩ := (h.own.acl x hx).slice gr_okT.len
    unfold PN.av at h1
    injection h1 with q1 q2 q3
    rw [q1]
    exact row_grs h2
  · obtain ⟨a1, c1, h1, -, -, h2⟩ := (h.own.wds x hx).slice wd_okC.len
    unfold PN.wv at h1
    injection h1 with q1 q2 q3
    rw [q1]
    exact row_wrds h2
theorem PMq.mat (h : PMq W B L0 bm n u t bs l) : MAt bm none (B + 1) (bs.map (segQ l u t)) W := by
  refine ⟨h.map, fun x hx hi => ?_⟩
  obtain ⟨q, _, rfl⟩ := List.mem_map.1 hx
  rw [segQ_g] at hi
  obtain ⟨-, h1, h2⟩ := segQ_v l u t q hi
  rw [h1, h2]
  exact h.own.wds _ (gotP_find (seg_is hi).1).2.1
theorem own_same {α : Type} {e : TypeId} {sz : Nat} {f : α → List Value} {base : Nat} {v : Value} {l : List α} {s : α → α} (h : OwnR e sz f W base v l) (hs : ∀ x, f (s x) = f x) : OwnR e sz f W base v (l.map s) := by
  have he : (l.map s).flatMap f = l.flatMap f := by
    rw [List.flatMap_map]
    congr 1
    funext x
    exact hs x
  unfold OwnR at h ⊢
  rw [List.length_map, he]
  exact h
theorem PMq.wrote (h : PMq W B L0 bm n u t bs l) (ho : Ordered (namesP l)) (hne : ∀ x ∈ namesP l, x.path ≠ ⟨#[]⟩) {k o y : Int} (hw : WrtM (bs.map (segQ l u t)) k o y W W') (hk : (kn ((bs.map (segQ l u t)).map (·.g)) k).is = true) (hin : inG (kn ((bs.map (segQ l u t)).map (·.g)) k) o) :
    PMq W' B L0 bm n u t bs (l.map (setP (bindP bs k) o.toNat y)) ∧ Sole L0 W W ∧ (∀ j, j < W.heap.size → (j < B + 1 ∨ L0 ≤ j) → W'.heap[j]? = W.heap[j]?) := by
  obtain ⟨g, hg, hgl, hs, hce⟩ := hw
  have hkp := knP_mem hk
  have hkg := knP_g (bs.map (segQ l u t)) k
  obtain ⟨p, hp, hq⟩ : ∃ p, bindP bs k = p ∧ knP (bs.map (segQ l u t)) k = segQ l u t p := by
    have h1 := hkp.2.1
    rw [List.getElem?_map] at h1
    obtain ⟨p, hp, hq⟩ := Option.map_eq_some_iff.1 h1
    refine ⟨p, ?_, hq.symm⟩
    unfold bindP
    rw [List.getD_eq_getElem?_getD, hp]
    rfl
  rw [hp]
  rw [hq] at hg hkg
  rw [← hkg] at hk hin
  rw [segQ_g] at hk
  obtain ⟨hsee, hdir, hsg⟩ := seg_is hk
  obtain ⟨-, hv, hws⟩ := segQ_v l u t p hk
  obtain ⟨hfd, hdm, hdp⟩ := gotP_find hsee
  obtain ⟨d, hd⟩ : ∃ d, gotP l p = d := ⟨_, rfl⟩
  rw [hd] at hv hws hfd hdm hdp
  rw [hv] at hg
  have hgB := ((h.own.wds d hdm).lt hg).1
  have hgL := h.lo d hdm g (.inr hg)
  have hlm := h.map.lt
  have hbm := h.bm
  have hz : eqs (⟨#[]⟩ : ByteArray) p = false := eqs_ne fun q => hne d.n (List.mem_map.2 ⟨d, hdm, rfl⟩) (by rw [eqs_iff.1 hdp, q])
  have hoth : ∀ j, j < W.heap.size → j ≠ g → W'.heap[j]? = W.heap[j]? := hs.block
  have hor : l.Pairwise fun a b => lt a.n.path b.n.path = true := by
    have := ho
    unfold Ordered namesP at this
    rw [List.pairwise_map] at this
    exact this
  have huniq : ∀ x ∈ l, eqs x.n.path p = true → x = d := fun x hx hxp => by
    have e : x.n.path = d.n.path := by rw [eqs_iff.1 hxp, eqs_iff.1 hdp]
    rcases two_of hor hx hdm with q | q | q
    · exact q
    · exact absurd e (lt_ne q)
    · exact absurd e.symm (lt_ne q)
  have hgne : ∀ x ∈ l, eqs x.n.path p = false → ∀ j, x.wv.ownBlock = some j → j ≠ g := fun x hx hxp j hj q => by
    subst q
    rcases two_of h.own.dis hx hdm with r | r | r
    · rw [r, hdp] at hxp; cases hxp
    · exact r j hj hg
    · exact r j hg hj
  have hlen : o.toNat < d.n.words.length ∧ 0 ≤ o := by
    have h1 := hin.1
    have h2 := hin.2
    rw [hws] at h2
    omega
  refine ⟨⟨by rw [List.length_map]; exact h.ln, (own_same h.row (setP_cs p o.toNat y)).keep fun j hj => ?_, ⟨fun x hx => ?_, fun x hx => ?_, ?_, fun x hx z hz' j hj => ?_⟩, fun x hx j hj => ?_, ?_, hbm, h.B0⟩, ⟨rfl, rfl, rfl, Nat.le_refl _, fun _ _ _ => rfl⟩, fun j hj hjj => hoth j hj (by omega)⟩
  · have e : B = j := by simpa [Value.ownBlock] using hj
    exact hoth j (by have := h.B0; omega) (by omega)
  · obtain ⟨x0, hx0, rfl⟩ := List.mem_map.1 hx
    rw [setP_av]
    have h1 := h.own.acl x0 hx0
    have h2 : (setP p o.toNat y x0).n.acl = x0.n.acl := setN_acl _ _ _ _
    rw [h2]
    exact h1.keep fun j hj => hoth j (h1.lt hj).2 (fun q => h.own.apt d hdm x0 hx0 g hg (by rw [hj, q]))
  · obtain ⟨x0, hx0, rfl⟩ := List.mem_map.1 hx
    rw [setP_wv]
    have h1 := h.own.wds x0 hx0
    cases hxp : eqs x0.n.path p
    · have h2 : (setP p o.toNat y x0).n.words = x0.n.words := by
        unfold setP setN
        rw [if_neg (by rw [hxp]; decide)]
      rw [h2]
      exact h1.keep fun j hj => hoth j (h1.lt hj).2 (hgne x0 hx0 hxp j hj)
    · have h2 : (setP p o.toNat y x0).n.words = x0.n.words.set o.toNat y := by
        unfold setP setN
        rw [if_pos hxp]
      rw [h2]
      have h3 := huniq x0 hx0 hxp
      subst h3
      obtain ⟨g', cap', hv', hg'⟩ : ∃ g' cap', x0.wv = .slice (some ⟨g', 0, none⟩) x0.n.words.length cap' ∧ True := by
        obtain ⟨g', cap', e1, -, -⟩ := h1.formR (by omega)
        exact ⟨g', cap', e1, trivial⟩
      have hgg : g' = g := by
        rw [hv'] at hg
        simpa [Value.ownBlock] using hg
      subst hgg
      rw [hv'] at h1 ⊢
      obtain ⟨xw, hxw⟩ : ∃ xw, x0.n.words[o.toNat]? = some xw := ⟨_, List.getElem?_eq_getElem hlen.1⟩
      have h4 := (OwnR.storedR (f := wcl) (sz := 1) wd_okC.len h1 rfl (j := o.toNat) (o := 0) (y := y) (u := .int .i64 y) hxw (by decide) rfl).1
      rw [Nat.mul_one, Nat.add_zero] at h4
      refine h4.keep fun j hj => ?_
      have e : g' = j := by simpa [Value.ownBlock] using hj
      rw [← e]
      exact hce
  · rw [List.pairwise_map]
    exact List.Pairwise.imp (fun {a b} q j => by rw [setP_wv, setP_wv]; exact q j) h.own.dis
  · obtain ⟨x0, hx0, rfl⟩ := List.mem_map.1 hx
    obtain ⟨z0, hz0, rfl⟩ := List.mem_map.1 hz'
    rw [setP_wv] at hj
    rw [setP_av]
    exact h.own.apt x0 hx0 z0 hz0 j hj
  · obtain ⟨x0, hx0, rfl⟩ := List.mem_map.1 hx
    rw [setP_av, setP_wv] at hj
    exact h.lo x0 hx0 j hj
  · have key : ∀ j, (knP (bs.map (segQ (l.map (setP p o.toNat y)) u t)) j).g.is = (knP (bs.map (segQ l u t)) j).g.is ∧ segV (bs.map (segQ (l.map (setP p o.toNat y)) u t)) j = segV (bs.map (segQ l u t)) j := fun j => by
      unfold segV
      rw [knP_map, knP_map]
      by_cases hj : j < 0
      · rw [if_pos hj, if_pos hj]
        exact ⟨rfl, rfl⟩
      · rw [if_neg hj, if_neg hj]
        cases bs[j.toNat]? with
        | none => exact ⟨rfl, rfl⟩
        | some q =>
          have h5 := segV_set l p o.toNat y u t q hz
          exact ⟨h5.1, by show Value.agg (sg6 (segQ (l.map (setP p o.toNat y)) u t q).g (segQ (l.map (setP p o.toNat y)) u t q).v).toArray = Value.agg (sg6 (segQ l u t q).g (segQ l u t q).v).toArray; rw [h5.2]⟩
    refine (h.map.same (hoth bm hlm (by omega))).turn (fun j _ => (key j).2) (fun j => ?_)
    rw [← knP_g, ← knP_g]
    exact (key j).1
end
end Go.Proofs.YtidihdiffiffmaaGreatDoor
namespace Go.Proofs.YtidihdiffiffmaaGreatDoor
open Go.RowKit
set_option maxRecDepth 8000
set_option linter.unusedSimpArgs false
set_option linter.unusedVariables false
theorem setM_all : ∀ (Y X p : List Value), X.length = Y.length → setM (p ++ X) p.length Y = p ++ Y
  | [], X, p, h => by
    have : X = [] := List.eq_nil_of_length_eq_zero h
    subst this
    rfl
  | y :: Y, [], p, h => by simp at h
  | y :: Y, x :: X, p, h => by
    have ih := setM_all Y X (p ++ [y]) (by simpa using h)
    rw [setM]
    have e : (p ++ x :: X).set p.length y = (p ++ [y]) ++ X := by simp
    rw [e]
    simpa using ih
structure LI (l : List PN) : Prop where
  inv : InvP (namesP l)
  len : l.length ≤ 1000
  cap : ∀ x ∈ l, x.wa = none → x.cw = 0
theorem LI.acl {l : List PN} (h : LI l) : ∀ x ∈ l, chkA x.n.acl = 0 := fun x hx => (nodC_zero.1 (h.inv.tr.ok x.n (List.mem_map.2 ⟨x, hx, rfl⟩))).2.2.2.1
theorem segs_names (l : List PN) (u : ByteArray) (t : Lab) (bs : List ByteArray) : (bs.map (segQ l u t)).map (·.g) = segsP (namesP l) u t bs := by
  unfold segsP
  rw [List.map_map]
  exact List.map_congr_left fun p _ => segQ_g l u t p
def accR (o : List Int) (r : Rn) : Rn := ⟨r.l, r.c, o ++ r.out, r.over, r.e⟩
theorem accR_nil (r : Rn) : accR [] r = r := rfl
theorem accR_acc (a b : List Int) (r : Rn) : accR a (accR b r) = accR (a ++ b) r := by simp [accR, List.append_assoc]
theorem told_len (O : Ot) : (toldO O).length ≤ 1 := by
  unfold toldO
  split
  · simp
  · simp
theorem runP_fault {u : ByteArray} {t : Lab} {bs : List ByteArray} {n : Nat} {L : List Nod} {c : Cp} {O : Ot} (h : stepC c (segsP L u t bs) = O) (he : O.e ≠ 0) : runP u t bs (n + 1) L c = ⟨L, c, [], true, O.e⟩ := by
  rw [runP, h, if_pos he]
theorem runP_halt {u : ByteArray} {t : Lab} {bs : List ByteArray} {n : Nat} {L : List Nod} {c : Cp} {O : Ot} (h : stepC c (segsP L u t bs) = O) (he : O.e = 0) (hh : O.t.hl = true) : runP u t bs (n + 1) L c = ⟨wrL L bs O.wr, O.t, toldO O, true, 0⟩ := by
  rw [runP, h, if_neg (by simp [he]), if_pos hh]
theorem runP_on {u : ByteArray} {t : Lab} {bs : List ByteArray} {n : Nat} {L : List Nod} {c : Cp} {O : Ot} (h : stepC c (segsP L u t bs) = O) (he : O.e = 0) (hh : O.t.hl = false) : runP u t bs (n + 1) L c = accR (toldO O) (runP u t bs n (wrL L bs O.wr) O.t) := by
  rw [runP, h, if_neg (by simp [he]), if_neg (by simp [hh])]
  rfl
theorem runP_on_eq {u : ByteArray} {t : Lab} {bs : List ByteArray} {n : Nat} {L : List Nod} {c : Cp} {O : Ot} (h : stepC c (segsP L u t bs) = O) (he : O.e = 0) : runP u t bs (n + 1) L c = if O.t.hl = true then ⟨wrL L bs O.wr, O.t, toldO O, true, 0⟩ else accR (toldO O) (runP u t bs n (wrL L bs O.wr) O.t) := by
  cases hh : O.t.hl
  · rw [runP_on h he hh]; rfl
  · rw [runP_halt h he hh]; rfl
theorem results_run {fn : Func} {T : TypeId} {d : TypeDesc} (h : fn.results = #[.tmp 8, .cell 9 T, .tmp 10, .tmp 11, .tmp 12]) (tmps : Array Value) (w : World) (b : Nat) (h9 : tmps.getD 9 undef = .pointer (some ⟨b, 0, none⟩)) (v8 v10 v11 v12 : Value) (h8 : tmps.getD 8 undef = v8) (h10 : tmps.getD 10 undef = v10) (h11 : tmps.getD 11 undef = v11) (h12 : tmps.getD 12 undef = v12)
    (cs : List Value) (hr : w.rangeAt b 0 cs) (hu : Tryz.prog.underlying T = some d) (hd : d.isRow = true) (hi : (Tryz.prog.info? T).map (·.size) = some cs.length) : (results fn tmps).run Tryz.prog w = .ok (.tuple #[v8, .agg cs.toArray, v10, v11, v12]) w := by
  have g8 : tmps[8]?.getD undef = v8 := by simpa using h8
  have g9 : tmps[9]?.getD undef = .pointer (some ⟨b, 0, none⟩) := by simpa using h9
  have g10 : tmps[10]?.getD undef = v10 := by simpa using h10
  have g11 : tmps[11]?.getD undef = v11 := by simpa using h11
  have g12 : tmps[12]?.getD undef = v12 := by simpa using h12
  have e := run_loadVar_mid (P := Tryz.prog) w b 0 T cs d hr hu hd hi
  simp [results, h, g8, g9, g10, g11, g12, asAddr, e]
end Go.Proofs.YtidihdiffiffmaaGreatDoor
namespace Go.Proofs.YtidihdiffiffmaaGreatDoor
open Go.RowKit
set_option maxRecDepth 8000
set_option linter.unusedSimpArgs false
set_option linter.unusedVariables false
def FW (O : Ot) : Prop := O.e ≠ 0 → O.wr = none
theorem ite_fw {p : Prop} [Decidable p] {x y : Ot} (h1 : p → FW x) (h2 : ¬ p → FW y) : FW (if p then x else y) := by
  by_cases h : p
  · rw [if_pos h]; exact h1 h
  · rw [if_neg h]; exact h2 h
theorem fw_step (c : Cp) (m : List Sg) : FW (stepC c m) := by
  have ok : ∀ t, FW (okC t) := fun t h => absurd rfl h
  have fl : ∀ e, FW (flt e) := fun e _ => rfl
  unfold stepC
  refine ite_fw (fun _ => ok _) (fun _ => ite_fw (fun _ => fl _) (fun _ => ?_))
  unfold opC
  refine ite_fw (fun _ => ok _) (fun _ => ?_)
  refine ite_fw (fun _ => ite_fw (fun _ => fl _) (fun _ => ok _)) (fun _ => ?_)
  refine ite_fw (fun _ => ite_fw (fun _ => fl _) (fun _ => fun h => absurd rfl h)) (fun _ => ?_)
  refine ite_fw (fun _ => ok _) (fun _ => ?_)
  refine ite_fw (fun _ => ok _) (fun _ => ?_)
  refine ite_fw (fun _ => ite_fw (fun _ => fl _) (fun _ => ok _)) (fun _ => ?_)
  refine ite_fw (fun _ => ok _) (fun _ => ?_)
  refine ite_fw (fun _ => ok _) (fun _ => ?_)
  refine ite_fw (fun _ => ite_fw (fun _ => fl _) (fun _ => ok _)) (fun _ => ?_)
  refine ite_fw (fun _ => ok _) (fun _ => ?_)
  refine ite_fw (fun _ => ite_fw (fun _ => fl _) (fun _ => ok _)) (fun _ => ?_)
  refine ite_fw (fun _ => ite_fw (fun _ => fl _) (fun _ => ok _)) (fun _ => ?_)
  exact ite_fw (fun _ => fun h => absurd rfl h) (fun _ => ok _)
structure Oth (b B L0 : Nat) (w W : World) : Prop where
  os : W.os = w.os
  tape : W.tape = w.tape
  output : W.output = w.output
  size : w.heap.size ≤ W.heap.size
  block : ∀ j, j < b → (j < B + 1 ∨ L0 ≤ j) → W.heap[j]? = w.heap[j]?
theorem Oth.of {b B L0 : Nat} {w W : World} (h : Below b w W) : Oth b B L0 w W := ⟨h.os, h.tape, h.output, h.size, fun j hj _ => h.block j hj⟩
theorem Oth.trans {b B L0 : Nat} {w W X : World} (h : Oth b B L0 w W) (k : Oth b B L0 W X) : Oth b B L0 w X := ⟨k.os.trans h.os, k.tape.trans h.tape, k.output.trans h.output, Nat.le_trans h.size k.size, fun j hj hc => (k.block j hj hc).trans (h.block j hj hc)⟩
theorem path_ne {L : List Nod} (h : InvP L) : ∀ x ∈ L, x.path ≠ ⟨#[]⟩ := fun x hx q => by
  have h1 := (nodC_zero.1 (h.tr.ok x hx)).1
  rw [q] at h1
  exact absurd h1 (by decide +kernel)
theorem step_pm {w W1 : World} {B L0 bm n : Nat} {u : ByteArray} {t : Lab} {bs : List ByteArray} {l : List PN} {c : Cp} {nn : Int} {O : Ot} (hP : PMq w B L0 bm n u t bs l) (hI : InvP (namesP l)) (hO : stepC c (segsP (namesP l) u t bs) = O) (hw : Wr bm w.heap.size (bs.map (segQ l u t)) nn w O.wr W1) :
    ∃ l1, PMq W1 B L0 bm n u t bs l1 ∧ namesP l1 = wrL (namesP l) bs O.wr ∧ Oth w.heap.size B L0 w W1 := by
  cases hr : O.wr with
  | none =>
    rw [hr] at hw
    have hb : Below w.heap.size w W1 := hw
    exact ⟨l, hP.below hb, rfl, Oth.of hb⟩
  | some p =>
    obtain ⟨k, o, y⟩ := p
    rw [hr] at hw
    have hwm : WrtM (bs.map (segQ l u t)) k o y w W1 := hw
    obtain ⟨h1, -, h2, -⟩ := wrQ_step c (segsP (namesP l) u t bs) k o y (by rw [hO]; exact hr)
    rw [← segs_names] at h1 h2
    obtain ⟨h3, -, h4⟩ := hP.wrote hI.tr.ord (path_ne hI) hwm h1 h2
    refine ⟨_, h3, by rw [setP_names]; rfl, ?_⟩
    obtain ⟨g, hg, hgl, hs, -⟩ := hwm
    exact ⟨hs.os, hs.tape, hs.output, hs.size, h4⟩
structure PS (v0 : Value) (w W : World) (B L0 bm n N : Nat) (u : ByteArray) (t : Lab) (bs : List ByteArray) (R : Rn) (m : Nat) (l : List PN) (c : Cp) (v : Value) (acc : List Int) (tv : Value) : Prop where
  bl : Oth w.heap.size B L0 w W
  pm : PMq W B L0 bm n u t bs l
  inv : InvP (namesP l)
  ok : c.Ok
  st : BlkL w.heap.size (stCs c v) W
  rs : BlkL (w.heap.size + 1) (stCs zeroC nilS) W
  stk : OwnR 102 3 frc W L0 v c.st
  out : OwnR 2 1 wcl W (w.heap.size + 2) tv acc
  apa : ∀ k, v.ownBlock = some k → k ≠ w.heap.size ∧ k ≠ w.heap.size + 1 ∧ tv.ownBlock ≠ some k
  al : acc.length + m ≤ N
  lw : bm < w.heap.size
  nb : ∀ k, v.ownBlock = some k → v0.ownBlock = some k ∨ w.heap.size ≤ k
  eqn : c.hl = false → R = accR acc (runP u t bs m (namesP l) c)
  eqh : c.hl = true → R = ⟨namesP l, c, acc, true, 0⟩
def StepsR (v0 : Value) (B L0 bm n : Nat) (u : ByteArray) (t : Lab) (bs : List ByteArray) (R : Rn) (w : World) (e : Ending) (w' : World) : Prop := ∃ (l' : List PN) (v' tv : Value), e = .returned (.tuple #[.agg (stCs R.c v').toArray, tv, .int .i64 R.e]) ∧ PMq w' B L0 bm n u t bs l' ∧ namesP l' = R.l ∧ InvP R.l ∧ R.c.Ok ∧ OwnR 102 3 frc w' L0 v' R.c.st ∧ OwnR 2 1 wcl w' (w.heap.size + 2) tv R.out ∧ R.over = (R.c.hl || (R.e != 0)) ∧ Oth w.heap.size B L0 w w' ∧ ∀ k, v'.ownBlock = some k → v0.ownBlock = some k ∨ w.heap.size ≤ k
theorem results_st3 {fn : Func} {T : TypeId} {d : TypeDesc} (h : fn.results = #[.cell 6 T, .tmp 7, .tmp 8]) (tmps : Array Value) (w : World) (b : Nat) (h6 : tmps.getD 6 undef = .pointer (some ⟨b, 0, none⟩)) (v7 v8 : Value) (h7 : tmps.getD 7 undef = v7) (h8 : tmps.getD 8 undef = v8)
    (cs : List Value) (hr : w.rangeAt b 0 cs) (hu : Tryz.prog.underlying T = some d) (hd : d.isRow = true) (hi : (Tryz.prog.info? T).map (·.size) = some cs.length) : (results fn tmps).run Tryz.prog w = .ok (.tuple #[.agg cs.toArray, v7, v8]) w := by
  have g6 : tmps[6]?.getD undef = .pointer (some ⟨b, 0, none⟩) := by simpa using h6
  have g7 : tmps[7]?.getD undef = v7 := by simpa using h7
  have g8 : tmps[8]?.getD undef = v8 := by simpa using h8
  have e := run_loadVar_mid (P := Tryz.prog) w b 0 T cs d hr hu hd hi
  simp [results, h, g6, g7, g8, asAddr, e]
theorem PS.ends {v0 : Value} {w W W9 : World} {B L0 bm n N : Nat} {u : ByteArray} {t : Lab} {bs : List ByteArray} {R : Rn} {m : Nat} {l : List PN} {c : Cp} {v : Value} {acc : List Int} {tv : Value} {e : Int} {over : Bool} (h : PS v0 w W B L0 bm n N u t bs R m l c v acc tv) (hW : W.setCells (w.heap.size + 1) 0 (stCs c v) = W9) (hR : R = ⟨namesP l, c, acc, over, e⟩) (ho : over = (c.hl || (e != 0))) :
    StepsR v0 B L0 bm n u t bs R w (.returned (.tuple #[.agg (stCs c v).toArray, tv, .int .i64 e])) W9 := by
  have hk : ∀ j, j ≠ w.heap.size + 1 → W9.heap[j]? = W.heap[j]? := fun j hj => by rw [← hW]; exact heap_setCells_other hj _ _ _
  have hbm := h.pm.bm
  have hml := h.pm.map.lt
  have hs := h.bl.size
  have hsz : W.heap.size ≤ W9.heap.size := by rw [← hW]; exact (Below.cells (B := 0) (b := w.heap.size + 1) (Nat.zero_le _) (stCs c v) 0 (Below.refl 0 W)).size
  have hb9 := Below.cells (B := w.heap.size) (b := w.heap.size + 1) (Nat.le_succ _) (stCs c v) 0 (Below.refl w.heap.size W)
  rw [hW] at hb9
  subst hR
  refine ⟨l, v, tv, rfl, h.pm.keep fun j hj => hk j (by have := h.lw; rcases hj with hj | hj <;> omega), rfl, h.inv, h.ok, h.stk.keep fun j hj => hk j (h.apa j hj).2.1, h.out.keep fun j hj => hk j (by have := (h.out.lt hj).1; omega), ho, h.bl.trans (Oth.of hb9), h.nb⟩
theorem PS.reach {v0 : Value} {w W : World} {B L0 bm n N : Nat} {u : ByteArray} {t : Lab} {bs : List ByteArray} {R : Rn} {m : Nat} {l : List PN} {c : Cp} {v : Value} {acc : List Int} {tv : Value} (h : PS v0 w W B L0 bm n N u t bs R m l c v acc tv) : ∃ W9, W.setCells (w.heap.size + 1) 0 (stCs c v) = W9 ∧ W.there (w.heap.size + 1) 0 (stCs c v).length ∧ W9.rangeAt (w.heap.size + 1) 0 (stCs c v) := by
  obtain ⟨W9, h1, h2, h3, -⟩ := put_any h.rs (ds := stCs c v) (by rw [st_len h.ok.ps]; rfl) (by rw [st_len h.ok.ps]; decide)
  exact ⟨W9, h1, h2, h3.range⟩
theorem PS.next {v0 : Value} {w Z : World} {B L0 bm n N : Nat} {u : ByteArray} {t : Lab} {bs : List ByteArray} {R : Rn} {k : Nat} {l1 : List PN} {c1 : Cp} {v1 : Value} {acc2 : List Int} {tv2 : Value} {X : List Value} (hbl : Oth w.heap.size B L0 w Z) (hP : PMq Z B L0 bm n u t bs l1) (hinv : InvP (namesP l1)) (hok : c1.Ok) (hst : BlkL w.heap.size X Z) (hX : X.length = 18) (hrs : BlkL (w.heap.size + 1) (stCs zeroC nilS) Z)
    (hv1 : OwnR 102 3 frc Z L0 v1 c1.st) (hout : OwnR 2 1 wcl Z (w.heap.size + 2) tv2 acc2) (hap : ∀ j, v1.ownBlock = some j → j ≠ w.heap.size ∧ j ≠ w.heap.size + 1 ∧ tv2.ownBlock ≠ some j) (hal : acc2.length + k ≤ N) (hlw : bm < w.heap.size) (hnb : ∀ k, v1.ownBlock = some k → v0.ownBlock = some k ∨ w.heap.size ≤ k) (he1 : c1.hl = false → R = accR acc2 (runP u t bs k (namesP l1) c1)) (he2 : c1.hl = true → R = ⟨namesP l1, c1, acc2, true, 0⟩) :
    ∃ W8, Z.setCells w.heap.size 0 (stCs c1 v1) = W8 ∧ Z.there w.heap.size 0 (stCs c1 v1).length ∧ PS v0 w W8 B L0 bm n N u t bs R k l1 c1 v1 acc2 tv2 := by
  have hl := st_len (v := v1) hok.ps
  obtain ⟨W8, h1, h2, h3, h4⟩ := put_any hst (ds := stCs c1 v1) (by rw [hX, hl]) (by rw [hl]; decide)
  have hk : ∀ j, j ≠ w.heap.size → W8.heap[j]? = Z.heap[j]? := fun j hj => by rw [← h1]; exact heap_setCells_other hj _ _ _
  have hL0 := hP.bm
  refine ⟨W8, h1, h2, hbl.trans (Oth.of (h4 w.heap.size Z (Nat.le_refl _) (Below.refl _ _))), hP.keep fun j hj => hk j (by rcases hj with hj | hj <;> omega), hinv, hok, h3, ⟨hrs.1.same (hk _ (by omega)), Nat.lt_of_lt_of_le hrs.2 (h4 w.heap.size Z (Nat.le_refl _) (Below.refl _ _)).size⟩, hv1.keep fun j hj => hk j (hap j hj).1, hout.keep fun j hj => hk j (by have := (hout.lt hj).1; omega), hap, hal, hlw, hnb, he1, he2⟩
theorem appC {t : TypeId} {u v r : Value} {w w' : World} (x y : Operand) (hc : (Builtin.append_ #[t, t] t #[u, v]).run Tryz.prog w = .ok r w') {ops : Array Oper} {o : Oper} {rest : List Oper} {Q : Exit → Act → World → Prop} {a : Act} (h1 : o.guard = none) (h2 : o.op = .call { callee := .builtin .append, args := #[x, y], argTypes := #[t, t] }) (h3 : o.type = t) (h4 : a.eval x = u) (h5 : a.eval y = v) (h6 : wpList Tryz.prog ops Q rest (a.put o.dst r) w') : wpList Tryz.prog ops Q (o :: rest) a w := wpList_append h1 x y h2 h3 h4 h5 hc h6
set_option maxRecDepth 8000 in
set_option maxHeartbeats 8000000 in
theorem psteps_any {B L0 bm n : Nat} {u : ByteArray} {t : Lab} {bs : List ByteArray} {l0 : List PN} (c0 : Cp) (v0 : Value) (N : Nat) (R : Rn) (hN : N ≤ 100) (hbs : bs.length ≤ 4) (hI : InvP (namesP l0)) (hc : c0.Ok) (hh0 : c0.hl = false) (hR : runP u t bs N (namesP l0) c0 = R) (w : World) (hP : PMq w B L0 bm n u t bs l0) (hv : OwnR 102 3 frc w L0 v0 c0.st) :
    Calls Tryz.prog 35 #[.agg (stCs c0 v0).toArray, memI bm, .int .i64 (N : Int)] w (StepsR v0 B L0 bm n u t bs R w) := by
  have hundS := Tryz.underlying45
  have hszS : (Tryz.prog.info? 45).map (·.size) = some 18 := by kernel_rfl
  have g0 := alloc_below w (.cells (stCs c0 v0).toArray 45)
  have f0 := blkl_alloc w (stCs c0 v0).toArray 45
  have f1 := blkl_alloc (w.alloc (.cells (stCs c0 v0).toArray 45)) (stCs zeroC nilS).toArray 45
  have g1 := alloc_below (w.alloc (.cells (stCs c0 v0).toArray 45)) (.cells (stCs zeroC nilS).toArray 45)
  rw [World.size_alloc] at f1
  have hS0 : PS v0 w ((w.alloc (.cells (stCs c0 v0).toArray 45)).alloc (.cells (stCs zeroC nilS).toArray 45)) B L0 bm n N u t bs R N l0 c0 v0 [] nilS := ⟨Oth.of (Below.then g0 g1), (hP.below g0).below g1, hI, hc, stab_blk _ _ _ _ f0 g1, f1, (hv.below g0).below g1, OwnR.nil _ _ _ _ _, fun k hk => ⟨by have := (hv.lt hk).2; omega, by have := (hv.lt hk).2; omega, fun q => by cases q⟩, by simp, hP.map.lt, fun k hk => .inl hk, fun _ => by rw [accR_nil]; exact hR.symm, fun q => by rw [hh0] at q; cases q⟩
  replace hS0 : PS v0 w ((w.alloc (.cells (stCs c0 v0).toArray 45)).alloc (.cells #[.int .i64 0, .int .i64 0, .int .i64 0, .int .i64 0, .int .i64 0, .int .i64 0, .int .i64 0, .int .i64 0, .int .i64 0, .int .i64 0, .int .i64 0, .int .i64 0, .int .i64 0, .int .i64 0, .int .i64 0, .int .i64 0, .slice none 0 0, .bool false] 45)) B L0 bm n N u t bs R N l0 c0 v0 [] nilS := hS0
  clear f0 f1 g0 g1 hP hv hc hI hR hh0
  obtain ⟨X0, hX0⟩ : ∃ X0, stCs c0 v0 = X0 := ⟨_, rfl⟩
  rw [hX0] at hS0 ⊢
  clear hX0
  go_enter Tryz.func35, Tryz.ntmps35
  go_upto_region 1 with fail
  generalize (w.alloc (.cells X0.toArray 45)).alloc (.cells #[.int .i64 0, .int .i64 0, .int .i64 0, .int .i64 0, .int .i64 0, .int .i64 0, .int .i64 0, .int .i64 0, .int .i64 0, .int .i64 0, .int .i64 0, .int .i64 0, .int .i64 0, .int .i64 0, .int .i64 0, .int .i64 0, .slice none 0 0, .bool false] 45) = W0 at *
  go_wp2_with fail
  go_loopw [2, 9] (fun t2 t9 wr => ∃ (m : Nat) (l : List PN) (c : Cp) (v : Value) (acc : List Int) (tv : Value), t2 = .int .i64 (m : Int) ∧ tv = t9 ∧ m ≤ N ∧ PS v0 w wr B L0 bm n N u t bs R m l c v acc tv) (fun t2 _ _ => (Go.RowKit.intOf t2).toNat)
  case atStart => exact ⟨N, l0, c0, v0, [], _, rfl, rfl, Nat.le_refl _, hS0⟩
  case round =>
    clear hS0
    obtain ⟨m, l, c, v, acc, tv, rfl, rfl, hmN, hS⟩ := hrel
    have hXl : (stCs c v).length = 18 := st_len hS.ok.ps
    have x17 := (hS.st.1 17 _ (st_hl hS.ok.ps)).1
    have hXr := hS.st.range
    have hvf := hS.stk.slice frc_len
    obtain ⟨W9, hW9, hth9, hr9⟩ := hS.reach
    by_cases hgo : m = 0 ∨ c.hl = true
    · have hend : StepsR v0 B L0 bm n u t bs R w (.returned (.tuple #[.agg (stCs c v).toArray, tv, .int .i64 0])) W9 := by
        rcases hgo with h0 | h0
        · cases hh : c.hl with
          | true => exact hS.ends hW9 (hS.eqh hh) (by rw [hh]; rfl)
          | false =>
            refine hS.ends hW9 (over := false) ?_ (by rw [hh]; rfl)
            rw [hS.eqn hh, h0]
            simp [runP, accR]
        · exact hS.ends hW9 (hS.eqh h0) (by rw [h0]; rfl)
      have hone : ∀ y ∈ stCs c v, y.oneCell' = true := by
        obtain ⟨a1, c1, hv1, -⟩ := hvf
        exact st_one c v (by rw [hv1]; rfl)
      clear hS hvf
      obtain ⟨X, hX⟩ : ∃ X, stCs c v = X := ⟨_, rfl⟩
      rw [hX] at hXl hXr hW9 hth9 hr9 hend hone
      have hszX : (Tryz.prog.info? 45).map (·.size) = some X.length := by rw [hXl]; exact hszS
      clear hX hXl
      by_cases h0 : m = 0
      · subst h0
        clear hgo
        go_wp2_with (first | (refine wpList_load_row rfl _ rfl w.heap.size rfl X hXr hundS rfl hszX ?_) | (refine wpList_store_row rfl _ _ rfl (w.heap.size + 1) rfl X rfl hth9 hszX hone hW9 ?_) | fail)
        refine bodyPost_ret (v := _) (results_st3 rfl _ _ (w.heap.size + 1) rfl _ _ rfl rfl X hr9 hundS rfl hszX) rfl ?_
        exact hend
      · have h1 : c.hl = true := by rcases hgo with q | q; exact absurd q h0; exact q
        have h2 : (0 : Int) < (m : Int) := by omega
        rw [h1] at x17
        clear hgo h1
        go_wp2_with (first | (refine wpList_load_row rfl _ rfl w.heap.size rfl X hXr hundS rfl hszX ?_) | (refine wpList_store_row rfl _ _ rfl (w.heap.size + 1) rfl X rfl hth9 hszX hone hW9 ?_) | fail)
        refine bodyPost_ret (v := _) (results_st3 rfl _ _ (w.heap.size + 1) rfl _ _ rfl rfl X hr9 hundS rfl hszX) rfl ?_
        exact hend
    · have hm0 : m ≠ 0 := fun q => hgo (.inl q)
      have hhl : c.hl = false := by
        cases q : c.hl with
        | false => rfl
        | true => exact absurd (.inr q) hgo
      obtain ⟨k, rfl⟩ : ∃ k, m = k + 1 := ⟨m - 1, by omega⟩
      clear hgo hm0
      obtain ⟨a1, c1, hv1, -, hn1, hfr⟩ := hvf
      have hMG : MG (bs.map (segQ l u t)) := ⟨by rw [List.length_map]; omega, fun x hx => by
        obtain ⟨q, _, rfl⟩ := List.mem_map.1 hx
        rw [segQ_g]
        exact seg_ok hS.inv u t q, fun x hx => by
        obtain ⟨q, _, rfl⟩ := List.mem_map.1 hx
        cases hi : (segP (namesP l) u t q).is
        · unfold segQ
          unfold segP at hi
          by_cases h0 : seeE (namesP l) t q ≠ 0 ∨ (gotN (namesP l) q).dir = true
          · rw [if_pos h0]; exact fun _ => rfl
          · rw [if_neg h0] at hi; cases hi
        · obtain ⟨h1, h2, -⟩ := segQ_v l u t q hi
          have h3 := hS.pm.own.wds _ (gotP_find (seg_is hi).1).2.1
          obtain ⟨a5, c5, h5, -, h6, -⟩ := h3.slice wd_okC.len
          unfold PN.wv at h5
          injection h5 with e1 e2 e3
          rw [h1, e1, e3]
          exact h6⟩
      have kst := cstep_any c hS.ok a1 c1 hn1 bm none (B + 1) (bs.map (segQ l u t)) hMG false 0 0 0 0 ⟨by decide, by decide⟩ wr hfr hS.pm.mat
      rw [segs_names] at kst
      rw [← hv1] at kst
      obtain ⟨O, hO⟩ : ∃ O, stepC c (segsP (namesP l) u t bs) = O := ⟨_, rfl⟩
      have hOok : O.e = 0 → O.t.Ok := fun q => by rw [← hO] at q ⊢; exact step_ok hS.ok (segs_ok hS.inv u t bs) q
      have hOps : O.t.ps.length = 4 := by rw [← hO]; exact step_ps hS.ok (segs_ok hS.inv u t bs)
      have hOI : InvP (wrL (namesP l) bs O.wr) := by rw [← hO]; exact wrL_inv hS.inv hS.ok
      have hOw : O.e ≠ 0 → O.wr = none := fun q => by rw [← hO] at q ⊢; exact fw_step _ _ q
      rw [hO] at kst
      have hone : ∀ y ∈ stCs c v, y.oneCell' = true := st_one c v (by rw [hv1]; rfl)
      have h2 : (0 : Int) < ((k + 1 : Nat) : Int) := by omega
      have h3 : ((k + 1 : Nat) : Int) - 1 = (k : Int) := by omega
      rw [hhl] at x17
      obtain ⟨X, hX⟩ : ∃ X, stCs c v = X := ⟨_, rfl⟩
      rw [hX] at hXl hXr hW9 hth9 hr9 hone kst
      replace hX : Aside _ := hX
      have hszX : (Tryz.prog.info? 45).map (·.size) = some X.length := by rw [hXl]; exact hszS
      clear hMG hfr hn1 hv1
      go_upto_region 4 with fail
      clear x17
      go_wp2_with (first | (refine wpList_load_row rfl _ rfl w.heap.size rfl X hXr hundS rfl hszX ?_) | fail)
      refine kst.mono ?_
      rintro e W1 ⟨v1, rfl, ho1, hw1⟩
      obtain ⟨l1, hP1, hl1, hO1⟩ := step_pm hS.pm hS.inv hO hw1
      have hlW := hO1.size
      have hblw := hS.rs.2
      have hlw := hS.lw
      have hL0 := hS.pm.bm
      have hB0 := hS.pm.B0
      have hkp : ∀ j, j < wr.heap.size → (j < B + 1 ∨ L0 ≤ j) → W1.heap[j]? = wr.heap[j]? := hO1.block
      have hst1 : BlkL w.heap.size X W1 := by
        have := hS.st
        rw [hX.out] at this
        exact ⟨this.1.same (hkp _ (by omega) (.inr (by omega))), by omega⟩
      have hrs1 : BlkL (w.heap.size + 1) (stCs zeroC nilS) W1 := ⟨hS.rs.1.same (hkp _ (by omega) (.inr (by omega))), by omega⟩
      have hout1 := hS.out.keep fun j hj => hkp j (hS.out.lt hj).2 (.inr (by have := (hS.out.lt hj).1; omega))
      have hstk1 := hS.stk.keep fun j hj => hkp j (hS.stk.lt hj).2 (.inr (hS.stk.lt hj).1)
      have hbl1 : Oth w.heap.size B L0 w W1 := hS.bl.trans ⟨hO1.os, hO1.tape, hO1.output, hO1.size, fun j hj hc => hO1.block j (by omega) hc⟩
      have hYl : (stCs O.t v1).length = 18 := st_len hOps
      obtain ⟨a6, c6, hv6, -⟩ := ho1.slice frc_len
      have hYo : ∀ y ∈ stCs O.t v1, y.oneCell' = true := st_one O.t v1 (by rw [hv6]; rfl)
      obtain ⟨W2, hW2, hth2, hY2, hB2⟩ := put_new W1 #[.int .i64 0, .int .i64 0, .int .i64 0, .int .i64 0, .int .i64 0, .int .i64 0, .int .i64 0, .int .i64 0, .int .i64 0, .int .i64 0, .int .i64 0, .int .i64 0, .int .i64 0, .int .i64 0, .int .i64 0, .int .i64 0, .slice none 0 0, .bool false] 45 (stCs O.t v1) (by rw [hYl]; rfl) (by rw [hYl]; decide)
      have hst2 := stab_blk _ _ _ _ hst1 hB2
      have hrs2 := stab_blk _ _ _ _ hrs1 hB2
      have hout2 := hout1.below hB2
      have hstk2 := hstk1.below hB2
      have ho2 := ho1.below hB2
      have hP2 := hP1.below hB2
      have hl12 : W1.heap.size < W2.heap.size := hY2.2
      have hbl2 : Oth w.heap.size B L0 w W2 := hbl1.trans (Oth.of ⟨hB2.os, hB2.tape, hB2.output, hB2.size, fun j hj => hB2.block j (by omega)⟩)
      have hapa1 : ∀ j, v1.ownBlock = some j → j ≠ w.heap.size ∧ j ≠ w.heap.size + 1 ∧ wr.heap.size ≤ j := fun j hj => ⟨by have := (ho1.lt hj).1; omega, by have := (ho1.lt hj).1; omega, (ho1.lt hj).1⟩
      have htvl : ∀ j, tv.ownBlock = some j → w.heap.size + 2 ≤ j ∧ j < wr.heap.size := fun j hj => hS.out.lt hj
      clear hst1 hrs1 hout1 hstk1 ho1 hP1 hbl1 hB2 hw1 hO1 hkp
      have heqn := hS.eqn hhl
      have hal := hS.al
      have hinv := hS.inv
      have hapa := hS.apa
      have hcok := hS.ok
      have hnb0 := hS.nb
      have hnb1 : ∀ j, v1.ownBlock = some j → v0.ownBlock = some j ∨ w.heap.size ≤ j := fun j hj => .inr (by have := (hapa1 j hj).2.2; omega)
      clear hS
      by_cases he : O.e = 0
      rotate_left
      · have hwn := hOw he
        rw [hwn] at hl1
        have hS2 : PS v0 w W2 B L0 bm n N u t bs R 0 l1 c v acc tv ∨ True := .inr trivial
        have hR : R = ⟨namesP l1, c, acc, true, O.e⟩ := by
          rw [heqn, runP_fault hO he, hl1]
          simp [accR, wrL]
        obtain ⟨W8, hW8, hth8, hr8⟩ : ∃ W8, W2.setCells (w.heap.size + 1) 0 X = W8 ∧ W2.there (w.heap.size + 1) 0 X.length ∧ W8.rangeAt (w.heap.size + 1) 0 X := by
          obtain ⟨W8, h1, h2, h3, -⟩ := put_any hrs2 (ds := X) (by rw [hXl]; rfl) (by rw [hXl]; decide)
          exact ⟨W8, h1, h2, h3.range⟩
        have hk8 : ∀ j, j ≠ w.heap.size + 1 → W8.heap[j]? = W2.heap[j]? := fun j hj => by rw [← hW8]; exact heap_setCells_other hj _ _ _
        have hb8 := Below.cells (B := w.heap.size) (b := w.heap.size + 1) (Nat.le_succ _) X 0 (Below.refl w.heap.size W2)
        rw [hW8] at hb8
        have hend : StepsR v0 B L0 bm n u t bs R w (.returned (.tuple #[.agg X.toArray, tv, .int .i64 O.e])) W8 := by
          subst hR
          refine ⟨l1, v, tv, by rw [← hX.out], hP2.keep fun j hj => hk8 j (by rcases hj with hj | hj <;> omega), rfl, by show InvP (namesP l1); rw [hl1]; exact hinv, hcok, hstk2.keep fun j hj => hk8 j (hapa j hj).2.1, hout2.keep fun j hj => hk8 j (by have := (hout2.lt hj).1; omega), ?_, hbl2.trans (Oth.of hb8), hnb0⟩
          show true = (c.hl || (O.e != 0))
          rw [hhl, show (O.e != 0) = true by simpa using he]
          rfl
        have hq : (O.e != 0) = true := by simpa using he
        have hXr2 := hst2.range
        have hYs : (Tryz.prog.info? 45).map (·.size) = some (stCs O.t v1).length := by rw [hYl]; exact hszS
        obtain ⟨Y, hY⟩ : ∃ Y, stCs O.t v1 = Y := ⟨_, rfl⟩
        rw [hY] at hYl hYo hW2 hth2 hYs ⊢
        clear hR hP2 hout2 hstk2 hst2 hrs2 ho2 hY2 hbl2 heqn hl1 hX hY
        go_upto_region 5 with (first | (refine wpList_store_row rfl _ _ rfl W1.heap.size rfl Y rfl hth2 hYs hYo hW2 ?_) | fail)
        go_wp2_with (first | (refine wpList_load_row rfl _ rfl w.heap.size rfl X hXr2 hundS rfl hszX ?_) | (refine wpList_store_row rfl _ _ rfl (w.heap.size + 1) rfl X rfl hth8 hszX hone hW8 ?_) | fail)
        refine bodyPost_ret (v := _) (results_st3 rfl _ _ (w.heap.size + 1) rfl _ _ rfl rfl X hr8 hundS rfl hszX) rfl ?_
        exact hend
      · have hok := hOok he
        have hrun := runP_on_eq (n := k) hO he
        have hlk : acc.length + (toldO O).length + k ≤ N := by have := told_len O; omega
        have hXr2 := hY2.range
        have hYs : (Tryz.prog.info? 45).map (·.size) = some (stCs O.t v1).length := by rw [hYl]; exact hszS
        have heA : O.t.hl = false → R = accR (acc ++ toldO O) (runP u t bs k (namesP l1) O.t) := fun q => by
          rw [heqn, hrun, if_neg (by rw [q]; decide), accR_acc, hl1]
        have heB : O.t.hl = true → R = ⟨namesP l1, O.t, acc ++ toldO O, true, 0⟩ := fun q => by
          rw [heqn, hrun, if_pos q, hl1]
          rfl
        have hinv1 : InvP (namesP l1) := by rw [hl1]; exact hOI
        clear hrun heqn hl1 hOI hinv hOok hOw hstk2
        cases htd : O.told
        · have htn : toldO O = [] := by unfold toldO; rw [htd]; rfl
          rw [htn, List.append_nil] at heA heB
          obtain ⟨W8, hW8, hth8, hS8⟩ := PS.next (N := N) (k := k) hbl2 hP2 hinv1 hok hst2 hXl hrs2 (ho2.lower (by omega)) hout2 (fun j hj => ⟨(hapa1 j hj).1, (hapa1 j hj).2.1, fun q => by have := (hapa1 j hj).2.2; have := (htvl j q).2; omega⟩) (by omega) hlw hnb1 heA heB
          obtain ⟨Y, hY⟩ : ∃ Y, stCs O.t v1 = Y := ⟨_, rfl⟩
          rw [hY] at hYl hYo hW2 hth2 hYs hW8 hth8 hXr2 ⊢
          clear heA heB hP2 hout2 hst2 hrs2 ho2 hY2 hbl2 hY htn hX
          go_upto_region 7 with (first | (refine wpList_store_row rfl _ _ rfl W1.heap.size rfl Y rfl hth2 hYs hYo hW2 ?_) | fail)
          go_wp2_with (first | (refine wpList_load_row rfl _ rfl W1.heap.size rfl Y hXr2 hundS rfl hYs ?_) | (refine wpList_store_row rfl _ _ rfl w.heap.size rfl Y rfl hth8 hYs hYo hW8 ?_) | fail)
          exact ⟨⟨k, l1, O.t, v1, acc, tv, by simp, rfl, by omega, hS8⟩, by simp [Go.RowKit.intOf]⟩
        · have hacl : acc.length < 900000 := by omega
          obtain ⟨tv2, Z, hap, hout3, hgr⟩ := OwnR.push wd_okC hout2 (show w.heap.size + 2 ≤ W2.heap.size by omega) O.v (wcl O.v).toArray rfl 2 hacl
          have hap2 := @appC _ _ _ _ _ _ (.tmp 37) (.tmp 39) (show (Builtin.append_ #[34, 34] 34 #[tv, .slice (some ⟨W2.heap.size, 0, none⟩) 1 1]).run Tryz.prog (W2.alloc (.cells #[.int .i64 O.v] 2)) = .ok tv2 Z from hap)
          have htn : toldO O = [O.v] := by unfold toldO; rw [htd]; rfl
          rw [htn] at heA heB hlk
          have hkz : ∀ j, j < W2.heap.size → tv.ownBlock ≠ some j → Z.heap[j]? = W2.heap[j]? := fun j h1 h2 => hgr.by_.block j h1 fun q => h2 q.symm
          have hsz : W2.heap.size ≤ Z.heap.size := hgr.by_.size
          have htn1 : ∀ j, (j < w.heap.size + 2 ∨ wr.heap.size ≤ j) → tv.ownBlock ≠ some j := fun j hj q => by have := htvl j q; omega
          have hst3 : BlkL w.heap.size X Z := ⟨hst2.1.same (hkz _ hst2.2 (htn1 _ (by omega))), by omega⟩
          have hrs3 : BlkL (w.heap.size + 1) (stCs zeroC nilS) Z := ⟨hrs2.1.same (hkz _ hrs2.2 (htn1 _ (by omega))), by omega⟩
          have ho3 := ho2.keep fun j hj => hkz j (ho2.lt hj).2 (htn1 j (.inr (hapa1 j hj).2.2))
          have hP3 := hP2.keep (W' := Z) fun j hj => hkz j (by rcases hj with hj | hj <;> omega) (htn1 j (by rcases hj with hj | hj <;> omega))
          have hbl3 : Oth w.heap.size B L0 w Z := hbl2.trans ⟨hgr.by_.os, hgr.by_.tape, hgr.by_.output, hsz, fun j hj _ => hkz j (by omega) (htn1 j (by omega))⟩
          have hY3 : BlkL W1.heap.size (stCs O.t v1) Z := ⟨hY2.1.same (hkz _ hY2.2 (htn1 _ (by omega))), by omega⟩
          obtain ⟨W8, hW8, hth8, hS8⟩ := PS.next (N := N) (k := k) hbl3 hP3 hinv1 hok hst3 hXl hrs3 (ho3.lower (by omega)) hout3 (fun j hj => ⟨(hapa1 j hj).1, (hapa1 j hj).2.1, fun q => hgr.apart (ho2.lt hj).2 (fun q2 => htn1 j (.inr (hapa1 j hj).2.2) q2.symm) q.symm⟩) (by simpa using hlk) hlw hnb1 heA heB
          have hXr3 := hY3.range
          obtain ⟨Y, hY⟩ : ∃ Y, stCs O.t v1 = Y := ⟨_, rfl⟩
          rw [hY] at hYl hYo hW2 hth2 hYs hW8 hth8 hXr3 ⊢
          clear heA heB hP2 hout2 hst2 hrs2 ho2 hY2 hbl2 hY htn hX hst3 hrs3 ho3 hP3 hbl3 hY3 hap hgr hout3 hkz htn1
          go_upto_region 8 with (first | (refine wpList_store_row rfl _ _ rfl W1.heap.size rfl Y rfl hth2 hYs hYo hW2 ?_) | fail)
          go_wp2_with (first | (refine hap2 rfl rfl rfl rfl rfl ?_) | (refine wpList_load_row rfl _ rfl W1.heap.size rfl Y hXr3 hundS rfl hYs ?_) | (refine wpList_store_row rfl _ _ rfl w.heap.size rfl Y rfl hth8 hYs hYo hW8 ?_) | fail)
          exact ⟨⟨k, l1, O.t, v1, acc ++ [O.v], tv2, by simp, rfl, by omega, hS8⟩, by simp [Go.RowKit.intOf]⟩
end Go.Proofs.YtidihdiffiffmaaGreatDoor
namespace Go.Proofs.YtidihdiffiffmaaGreatDoor
open Go.RowKit
set_option maxRecDepth 8000
set_option linter.unusedSimpArgs false
set_option linter.unusedVariables false
theorem pr_one {w : World} {b1 b2 : Nat} {bv pv : Value} {bs : List ByteArray} {st : List Fr} {c : Cp} (h1 : OwnR 9 1 scl w b1 bv bs) (h2 : OwnR 102 3 frc w b2 pv st) : ∀ y ∈ prL bv (stCs c pv), y.oneCell' = true := fun y hy => by
  obtain ⟨a1, c1, e1, -⟩ := h1.slice scl_ok.len
  obtain ⟨a2, c2, e2, -⟩ := h2.slice frc_len
  rcases List.mem_cons.1 hy with rfl | hy
  · rw [e1]; rfl
  · exact st_one c pv (by rw [e2]; rfl) y hy
theorem OwnL.keepG {W W' : World} {B n L0 gA : Nat} {l l1 : List PN} {i : Nat} (h : OwnL W B n l i l1) (hf : ∀ y ∈ l1, ∀ g, (y.av.ownBlock = some g ∨ y.wv.ownBlock = some g) → g < L0) (hk : ∀ j, j ≠ gA → W'.heap[j]? = W.heap[j]?) (hg : gA < B ∨ L0 ≤ gA) (hne : gA ≠ B) : OwnL W' B n l i l1 :=
  ⟨h.ln, h.le, h.len, h.nm, h.row.keep fun j hj => hk j (fun q => by
    have e : B = j := by simpa [Value.ownBlock] using hj
    omega), ⟨fun x hx => (h.own.acl x hx).keep fun j hj => hk j (by have := ((h.own.acl x hx).lt hj).1; have := hf x hx j (.inl hj); omega), fun x hx => (h.own.wds x hx).keep fun j hj => hk j (by have := ((h.own.wds x hx).lt hj).1; have := hf x hx j (.inr hj); omega), h.own.dis, h.own.apt⟩⟩
abbrev Z18C : Array Value := #[.int .i64 0, .int .i64 0, .int .i64 0, .int .i64 0, .int .i64 0, .int .i64 0, .int .i64 0, .int .i64 0, .int .i64 0, .int .i64 0, .int .i64 0, .int .i64 0, .int .i64 0, .int .i64 0, .int .i64 0, .int .i64 0, .slice none 0 0, .bool false]
theorem Oth.blk {b B L0 g : Nat} {w W : World} {cs : List Value} (h : Oth b B L0 w W) (hg : BlkL g cs w) (hl : g < b) (hc : g < B + 1 ∨ L0 ≤ g) : BlkL g cs W := ⟨hg.1.same (h.block g hl hc), Nat.lt_of_lt_of_le hg.2 h.size⟩
theorem strsL_load (w : World) (y : Addr) (v : Value) (h : w.cell? y = some v) : (Instr.loadAt 39 (.pointer (some y))).run Tryz.prog w = .ok v w := by
  have h1 := Tryz.underlying39
  go_simp
structure S4 (b gA : Nat) (u : ByteArray) (t : Lab) (ba : Option Addr) (nb bc : Nat) (X : List Value) (bv : Value) (c : Cp) (pv : Value) (W : World) : Prop where
  a : BlkL gA (prL bv (stCs c pv)) W
  s : BlkL b (sbL u t) W
  p : BlkL (b + 1) (prL (.slice ba nb bc) X) W
section
variable {b gA : Nat} {u : ByteArray} {t : Lab} {ba : Option Addr} {nb bc : Nat} {X : List Value} {bv : Value} {c : Cp} {pv : Value} {W W' : World}
theorem S4.st (h : S4 b gA u t ba nb bc X bv c pv W) : W.rangeAt gA 1 (stCs c pv) := fun j v hv => by
  have := (h.a.1 (1 + j) v (by rw [Nat.add_comm]; exact hv)).1
  exact this
theorem S4.then (h : S4 b gA u t ba nb bc X bv c pv W) (k : Below W.heap.size W W') : S4 b gA u t ba nb bc X bv c pv W' := ⟨stab_blk _ _ _ _ h.a k, stab_blk _ _ _ _ h.s k, stab_blk _ _ _ _ h.p k⟩
theorem S4.keep {g : Nat} (h : S4 b gA u t ba nb bc X bv c pv W) (hk : ∀ j, j ≠ g → W'.heap[j]? = W.heap[j]?) (hs : W.heap.size ≤ W'.heap.size) (h3 : b + 3 ≤ g) (hg : g ≠ gA) : S4 b gA u t ba nb bc X bv c pv W' := ⟨⟨h.a.1.same (hk _ (Ne.symm hg)), Nat.lt_of_lt_of_le h.a.2 hs⟩, ⟨h.s.1.same (hk _ (by omega)), Nat.lt_of_lt_of_le h.s.2 hs⟩, ⟨h.p.1.same (hk _ (by omega)), Nat.lt_of_lt_of_le h.p.2 hs⟩⟩
theorem S4.oth {B L0 : Nat} (h : S4 b gA u t ba nb bc X bv c pv W) (k : Oth W.heap.size B L0 W W') (h3 : b + 3 ≤ B) (hg : gA < B ∨ L0 ≤ gA) : S4 b gA u t ba nb bc X bv c pv W' := ⟨k.blk h.a h.a.2 (by omega), k.blk h.s h.s.2 (.inl (by omega)), k.blk h.p h.p.2 (.inl (by omega))⟩
theorem OwnL.rowN {B n : Nat} {l l1 : List PN} (h : OwnL W B n l n l1) : RowN W (some ⟨B, 0, none⟩) l1 ∧ namesP l1 = namesP l ∧ OwnN W B (.slice (some ⟨B, 0, none⟩) n n) l1 := by
  have hrow := h.row
  rw [List.drop_eq_nil_of_le (by rw [h.ln]; exact Nat.le_refl _), List.append_nil] at hrow
  obtain ⟨a, cc, hv, -, -, hr⟩ := hrow.slice pn_len
  injection hv with e1 e2 e3
  subst e1
  refine ⟨⟨hr, fun x hx => ⟨?_, ?_⟩⟩, ?_, hrow⟩
  · obtain ⟨a1, c1, h1, -, -, h2⟩ := (h.own.acl x hx).slice gr_okT.len
    unfold PN.av at h1
    injection h1 with q1 q2 q3
    rw [q1]
    exact row_grs h2
  · obtain ⟨a1, c1, h1, -, -, h2⟩ := (h.own.wds x hx).slice wd_okC.len
    unfold PN.wv at h1
    injection h1 with q1 q2 q3
    rw [q1]
    exact row_wrds h2
  · rw [h.nm, List.take_of_length_le (by rw [h.ln]; exact Nat.le_refl _)]
theorem OwnL.pm {B n L0 mb : Nat} {bs : List ByteArray} {l l1 : List PN} (h : OwnL W B n l n l1) (hf : ∀ y ∈ l1, ∀ g, (y.av.ownBlock = some g ∨ y.wv.ownBlock = some g) → g < L0) (hBL : B < L0) (hm : MapI W mb (segV (bs.map (segQ l1 u t))) (fun k => (kn ((bs.map (segQ l1 u t)).map (·.g)) k).is)) (hL : L0 ≤ mb) : PMq W B L0 mb n u t bs l1 := ⟨h.len, h.rowN.2.2, h.own, hf, hm, hL, hBL⟩
end
theorem fine_names {l l1 : List PN} (h : FineL l) (he : namesP l1 = namesP l) : FineL l1 := by
  have hl : l1.length = l.length := by
    have := congrArg List.length he
    simpa [namesP] using this
  refine ⟨by rw [hl]; exact h.len, by rw [he]; exact h.ord, fun x hx => ?_⟩
  have h1 : x.n ∈ namesP l := by rw [← he]; exact List.mem_map.2 ⟨x, hx, rfl⟩
  obtain ⟨y, hy, e⟩ := List.mem_map.1 h1
  rw [← e]
  exact h.ok y hy
theorem boolP_load (w : World) (y : Addr) (v : Value) (h : w.cell? y = some v) : (Instr.loadAt 4 (.pointer (some y))).run Tryz.prog w = .ok v w := by
  have h1 := Tryz.underlying4
  go_simp
def RunP (bs : List ByteArray) (n : Nat) (R : Rn) (w : World) (e : Ending) (w' : World) : Prop := ∃ (l' : List PN) (B : Nat) (bv v' tv : Value), e = .returned (.tuple #[.slice (some ⟨B, 0, none⟩) n n, .agg (prL bv (stCs R.c v')).toArray, tv, .bool R.over, .int .i64 R.e]) ∧ l'.length = n ∧ w.heap.size ≤ B ∧ RowN w' (some ⟨B, 0, none⟩) l' ∧ OwnX w' (B + 1) l' ∧ namesP l' = R.l ∧ InvP R.l ∧ R.c.Ok ∧ OwnR 9 1 scl w' w.heap.size bv bs ∧ OwnR 102 3 frc w' w.heap.size v' R.c.st ∧ OwnR 2 1 wcl w' w.heap.size tv R.out ∧ Below w.heap.size w w'
set_option maxRecDepth 8000 in
set_option maxHeartbeats 8000000 in
theorem prunA_any (a : Option Addr) (cap : Nat) (l : List PN) (u : ByteArray) (t : Lab) (ba : Option Addr) (bc : Nat) (bs : List ByteArray) (c : Cp) (v : Value) (n0 : Nat) (R : Rn) (hF : FineL l) (hI : InvP (namesP l)) (hGt : GL t) (hbs : bs.length ≤ 4) (hps : ∀ p ∈ bs, p.size ≤ 1000) (hc : c.Ok) (hh : c.hl = false) (hn0 : n0 ≤ 100) (hR : runP u t bs n0 (namesP l) c = R) (w : World) (h : RowN w a l) (hRB : RowAt 1 scl w ba bs) (hv : SV v c.st w) (hV : MaxV w) :
    Calls Tryz.prog 17 #[.slice a l.length cap, .agg (sbL u t).toArray, .agg (prL (.slice ba bs.length bc) (stCs c v)).toArray, .int .i64 (n0 : Int)] w (RunP bs l.length R w) := by
  have hundP := Tryz.underlying47
  have hundT := Tryz.underlying45
  have hszP : (Tryz.prog.info? 47).map (·.size) = some 19 := by kernel_rfl
  have hszT : (Tryz.prog.info? 45).map (·.size) = some 18 := by kernel_rfl
  have kown := fun (W : World) r => pown_any a cap l hF.len hF.few W r
  have kpro := fun (W : World) r q => popp_any ba bc bs c hc.ps v (by omega) (by have := hc.st; omega) W r q
  obtain ⟨n, hn⟩ : ∃ n, l.length = n := ⟨_, rfl⟩
  obtain ⟨nb, hnb⟩ : ∃ nb, bs.length = nb := ⟨_, rfl⟩
  rw [hn] at kown ⊢
  rw [hnb] at hbs kpro ⊢
  replace hn : Aside (l.length = n) := hn
  replace hnb : Aside (bs.length = nb) := hnb
  have hXl : (stCs c v).length = 18 := st_len hc.ps
  obtain ⟨X, hX⟩ : ∃ X, stCs c v = X := ⟨_, rfl⟩
  rw [hX] at hXl kpro ⊢
  clear hX
  have hszX : (Tryz.prog.info? 47).map (·.size) = some (prL (.slice ba nb bc) X).length := by rw [hszP]; simp [hXl]
  have f0 := blkl_alloc w (sbL u t).toArray 52
  have g0 := alloc_below w (.cells (sbL u t).toArray 52)
  have f1 := blkl_alloc (w.alloc (.cells (sbL u t).toArray 52)) (prL (.slice ba nb bc) X).toArray 47
  have g1 := alloc_below (w.alloc (.cells (sbL u t).toArray 52)) (.cells (prL (.slice ba nb bc) X).toArray 47)
  have f2 := blkl_alloc ((w.alloc (.cells (sbL u t).toArray 52)).alloc (.cells (prL (.slice ba nb bc) X).toArray 47)) zPC 47
  have g2 := alloc_below ((w.alloc (.cells (sbL u t).toArray 52)).alloc (.cells (prL (.slice ba nb bc) X).toArray 47)) (.cells zPC 47)
  rw [World.size_alloc] at f1
  rw [World.size_alloc, World.size_alloc] at f2
  have hsb := stab_blk _ _ _ _ (stab_blk _ _ _ _ f0 g1) g2
  have hpr := stab_blk _ _ _ _ f1 g2
  have hrs : BlkL (w.heap.size + 2) (prL nilS (stCs zeroC nilS)) _ := f2
  have hBw := Below.then (Below.then g0 g1) g2
  have hwz : w.heap.size + 3 ≤ (((w.alloc (.cells (sbL u t).toArray 52)).alloc (.cells (prL (.slice ba nb bc) X).toArray 47)).alloc (.cells zPC 47)).heap.size := by simp
  clear f0 g0 f1 g1 f2 g2
  go_enter Tryz.func17, Tryz.ntmps17
  go_upto_region 3 with fail
  generalize ((w.alloc (.cells (sbL u t).toArray 52)).alloc (.cells (prL (.slice ba nb bc) X).toArray 47)).alloc (.cells zPC 47) = W0 at *
  have hdr : Below W0.heap.size W0 W0.drew := (Below.refl _ _).drew
  replace hsb : BlkL w.heap.size (sbL u t) W0.drew := stab_blk _ _ _ _ hsb hdr
  replace hpr : BlkL (w.heap.size + 1) (prL (.slice ba nb bc) X) W0.drew := stab_blk _ _ _ _ hpr hdr
  replace hrs : BlkL (w.heap.size + 2) (prL nilS (stCs zeroC nilS)) W0.drew := stab_blk _ _ _ _ hrs hdr
  replace hBw : Below w.heap.size w W0.drew := hBw.drew
  replace hwz : w.heap.size + 3 ≤ W0.drew.heap.size := hwz
  have hrow := h.below hBw
  clear hdr
  go_cut [13, 14] from 25 (fun s13 s14 wc => ∃ (B L0 gA : Nat) (l1 : List PN) (bv pv : Value), s13 = .slice (some ⟨B, 0, none⟩) n n ∧ s14 = .pointer (some ⟨gA, 0, none⟩) ∧ w.heap.size + 3 ≤ B ∧ B < L0 ∧ Below w.heap.size w wc ∧ BlkL w.heap.size (sbL u t) wc ∧ BlkL (w.heap.size + 1) (prL (.slice ba nb bc) X) wc ∧ BlkL (w.heap.size + 2) (prL nilS (stCs zeroC nilS)) wc ∧ OwnL wc B n l n l1 ∧ (∀ y ∈ l1, ∀ g, (y.av.ownBlock = some g ∨ y.wv.ownBlock = some g) → g < L0) ∧ OwnR 9 1 scl wc L0 bv bs ∧ OwnR 102 3 frc wc L0 pv c.st ∧ (gA < B ∨ L0 ≤ gA) ∧ w.heap.size + 3 ≤ gA ∧ bv.ownBlock ≠ some gA ∧ pv.ownBlock ≠ some gA ∧ BlkL gA (prL bv (stCs c pv)) wc ∧ L0 ≤ wc.heap.size)
  · skip
    refine wp_region_held_drew (S := (fun W => BlkL (w.heap.size + 1) (prL (.slice ba nb bc) X) W)) (by kernel_rfl) (by exact hpr) ?_
    intro hHeld
    generalize W0.drew = w0 at *
    refine tkA 0 ?_
    refine tkB 2 (y := yieldsIf_load_mid (by rfl) 47 _ rfl (w.heap.size + 1) 0 rfl (prL (.slice ba nb bc) X) _ (fun W s => s.range) hundP rfl hszX) (h := ?_)
    refine tkR (rs := [1, 4]) ?_
    refine tkC (fun K hK => ?_) ?_
    · go_simp
      go_at_call 33
      refine (kown w0 hrow).mono ?_
      rintro e w1 ⟨l1, rfl, hL, hb⟩
      replace hBw := Below.then hBw hb
      replace hsb := stab_blk _ _ _ _ hsb hb
      replace hpr := stab_blk _ _ _ _ hpr hb
      replace hrs := stab_blk _ _ _ _ hrs hb
      obtain ⟨B, hBe⟩ : ∃ B, w0.heap.size = B := ⟨_, rfl⟩
      rw [hBe] at hL ⊢
      have hBlo : w.heap.size + 3 ≤ B := by rw [← hBe]; exact hwz
      replace hwz := Nat.le_trans hwz hb.size
      obtain ⟨L0, hL0⟩ : ∃ L0, w1.heap.size = L0 := ⟨_, rfl⟩
      have hBL : B < L0 := by rw [← hL0]; exact (hL.row.lt rfl).2
      have hfew : ∀ y ∈ l1, ∀ g, (y.av.ownBlock = some g ∨ y.wv.ownBlock = some g) → g < L0 := by rw [← hL0]; exact hL.own.few
      have hloL : L0 ≤ w1.heap.size := by rw [hL0]; exact Nat.le_refl _
      clear hrow hBe hL0 hb
      refine hK.out _ _ (hpr) ?_
      clear hHeld hK
      intro hHeld
      (try simp only [Act.put, zsA, zsB, zsC])
      refine tkR (rs := [3, 4]) ?_
      refine tkC (fun K hK => ?_) ?_
      · go_simp
        go_at_call 34
        refine (kpro w1 (hRB.below scl_ok.len hBw) (hv.below hBw)).mono ?_
        rintro e w2 ⟨bv, pv, rfl, hbo, hpo, hb⟩
        have hloW := hloL
        replace hBw := Below.then hBw hb
        replace hsb := stab_blk _ _ _ _ hsb hb
        replace hpr := stab_blk _ _ _ _ hpr hb
        replace hrs := stab_blk _ _ _ _ hrs hb
        replace hwz := Nat.le_trans hwz hb.size
        replace hL := hL.below hb
        replace hloL := Nat.le_trans hloL hb.size
        replace hbo : OwnR 9 1 scl w2 L0 bv bs := hbo.lower (by omega)
        replace hpo : OwnR 102 3 frc w2 L0 pv c.st := hpo.lower (by omega)
        clear hb
        refine hK.out _ _ (hpr) ?_
        clear hHeld hK
        intro hHeld
        (try simp only [Act.put, zsA, zsB, zsC])
        refine tkR (rs := [4]) ?_
        refine tkC (fun K hK => ?_) AllReadyH.nil
        have hb := alloc_below w2 (.cells zPC 47)
        refine step_allocC (z := zPC) rfl rfl (fun _ => rfl) ?_
        (try simp only [Act.put, zsA, zsB, zsC])
        refine hK.out _ _ (stab_blk _ _ _ _ hpr hb) ?_
        clear hHeld hK
        intro hHeld
        have hne1 : bv.ownBlock ≠ some w2.heap.size := fun q => by have := (hbo.lt q).2; omega
        have hne2 : pv.ownBlock ≠ some w2.heap.size := fun q => by have := (hpo.lt q).2; omega
        have hgab : w2.heap.size < B ∨ L0 ≤ w2.heap.size := .inr hloL
        have hglo : w.heap.size + 3 ≤ w2.heap.size := hwz
        have hgz : BlkL w2.heap.size (prL nilS (stCs zeroC nilS)) (w2.alloc (.cells zPC 47)) := blkl_alloc w2 zPC 47
        have hgas : w2.heap.size < (w2.alloc (.cells zPC 47)).heap.size := hgz.2
        replace hBw := Below.then hBw hb
        replace hsb := stab_blk _ _ _ _ hsb hb
        replace hpr := stab_blk _ _ _ _ hpr hb
        replace hrs := stab_blk _ _ _ _ hrs hb
        replace hwz := Nat.le_trans hwz hb.size
        replace hL := hL.below hb
        replace hloL := Nat.le_trans hloL hb.size
        replace hbo := hbo.below hb
        replace hpo := hpo.below hb
        replace hHeld := hHeld
        generalize w2.alloc (.cells zPC 47) = w3 at *
        generalize w2.heap.size = gA at *
        clear hb
        (try simp only [Act.put, zsA, zsB, zsC])
        refine tkA 5 ?_
        refine tkR (rs := [6]) ?_
        refine tkC (fun K hK => ?_) AllReadyH.nil
        have hZl : (prL bv (stCs c pv)).length = 19 := by simp [st_len hc.ps]
        have hZo : ∀ y ∈ prL bv (stCs c pv), y.oneCell' = true := pr_one hbo hpo
        have hZs : (Tryz.prog.info? 47).map (·.size) = some (prL bv (stCs c pv)).length := by rw [hZl]; exact hszP
        obtain ⟨V9, hV9, hth9, hbh, hb9⟩ := put_any hgz (ds := prL bv (stCs c pv)) (by rw [hZl]; rfl) (by rw [hZl]; decide)
        refine step_store_rowC rfl _ _ rfl gA rfl (prL bv (stCs c pv)) rfl hth9 hZs hZo hV9 ?_
        (try simp only [Act.put, zsA, zsB, zsC])
        have hk9 : ∀ j, j ≠ gA → V9.heap[j]? = w3.heap[j]? := fun j hj => by rw [← hV9]; exact heap_setCells_other hj _ _ _
        have hs9 : w3.heap.size ≤ V9.heap.size := (hb9 0 w3 (Nat.zero_le _) (Below.refl _ _)).size
        replace hBw := hb9 _ _ (by omega) hBw
        replace hsb : BlkL w.heap.size (sbL u t) V9 := ⟨hsb.1.same (hk9 _ (by omega)), Nat.lt_of_lt_of_le hsb.2 hs9⟩
        replace hpr : BlkL (w.heap.size + 1) (prL (.slice ba nb bc) X) V9 := ⟨hpr.1.same (hk9 _ (by omega)), Nat.lt_of_lt_of_le hpr.2 hs9⟩
        replace hrs : BlkL (w.heap.size + 2) (prL nilS (stCs zeroC nilS)) V9 := ⟨hrs.1.same (hk9 _ (by omega)), Nat.lt_of_lt_of_le hrs.2 hs9⟩
        replace hloL : L0 ≤ V9.heap.size := Nat.le_trans hloL hs9
        replace hL := hL.keepG hfew hk9 hgab (by omega)
        replace hbo := hbo.keep fun j hj => hk9 j (fun q => hne1 (by rw [hj, q]))
        replace hpo := hpo.keep fun j hj => hk9 j (fun q => hne2 (by rw [hj, q]))
        clear hgz hk9 hth9 hb9 hV9 hZl hZo hZs hs9
        refine hK.out _ _ (hpr) ?_
        clear hHeld hK
        intro hHeld
        (try simp only [Act.put, zsA, zsB, zsC])
        refine wpAnyH_done (by kernel_rfl) ?_ _
        clear hHeld
        go_wp2_with fail
        go_meet
        exact ⟨B, L0, gA, l1, bv, pv, rfl, rfl, hBlo, hBL, hBw, hsb, hpr, hrs, hL, hfew, hbo, hpo, hgab, hglo, hne1, hne2, hbh, hloL⟩
      refine tkC (fun K hK => ?_) AllReadyH.nil
      have hb := alloc_below w1 (.cells zPC 47)
      refine step_allocC (z := zPC) rfl rfl (fun _ => rfl) ?_
      (try simp only [Act.put, zsA, zsB, zsC])
      refine hK.out _ _ (stab_blk _ _ _ _ hpr hb) ?_
      clear hHeld hK
      intro hHeld
      have hgab : w1.heap.size < B ∨ L0 ≤ w1.heap.size := .inr hloL
      have hglo : w.heap.size + 3 ≤ w1.heap.size := hwz
      have hgz : BlkL w1.heap.size (prL nilS (stCs zeroC nilS)) (w1.alloc (.cells zPC 47)) := blkl_alloc w1 zPC 47
      have hgas : w1.heap.size < (w1.alloc (.cells zPC 47)).heap.size := hgz.2
      replace hBw := Below.then hBw hb
      replace hsb := stab_blk _ _ _ _ hsb hb
      replace hpr := stab_blk _ _ _ _ hpr hb
      replace hrs := stab_blk _ _ _ _ hrs hb
      replace hwz := Nat.le_trans hwz hb.size
      replace hL := hL.below hb
      replace hloL := Nat.le_trans hloL hb.size
      replace hHeld := hHeld
      generalize w1.alloc (.cells zPC 47) = w2 at *
      generalize w1.heap.size = gA at *
      clear hb
      (try simp only [Act.put, zsA, zsB, zsC])
      refine tkR (rs := [3]) ?_
      refine tkC (fun K hK => ?_) AllReadyH.nil
      go_simp
      go_at_call 34
      refine (kpro w2 (hRB.below scl_ok.len hBw) (hv.below hBw)).mono ?_
      rintro e w3 ⟨bv, pv, rfl, hbo, hpo, hb⟩
      have hloW := hloL
      have hne1 : bv.ownBlock ≠ some gA := fun q => by have := (hbo.lt q).1; omega
      have hne2 : pv.ownBlock ≠ some gA := fun q => by have := (hpo.lt q).1; omega
      replace hgas : gA < w3.heap.size := Nat.lt_of_lt_of_le hgas hb.size
      replace hBw := Below.then hBw hb
      replace hsb := stab_blk _ _ _ _ hsb hb
      replace hpr := stab_blk _ _ _ _ hpr hb
      replace hrs := stab_blk _ _ _ _ hrs hb
      replace hwz := Nat.le_trans hwz hb.size
      replace hL := hL.below hb
      replace hloL := Nat.le_trans hloL hb.size
      replace hgz := stab_blk _ _ _ _ hgz hb
      replace hbo : OwnR 9 1 scl w3 L0 bv bs := hbo.lower (by omega)
      replace hpo : OwnR 102 3 frc w3 L0 pv c.st := hpo.lower (by omega)
      clear hb
      refine hK.out _ _ (hpr) ?_
      clear hHeld hK
      intro hHeld
      (try simp only [Act.put, zsA, zsB, zsC])
      refine tkA 5 ?_
      refine tkR (rs := [6]) ?_
      refine tkC (fun K hK => ?_) AllReadyH.nil
      have hZl : (prL bv (stCs c pv)).length = 19 := by simp [st_len hc.ps]
      have hZo : ∀ y ∈ prL bv (stCs c pv), y.oneCell' = true := pr_one hbo hpo
      have hZs : (Tryz.prog.info? 47).map (·.size) = some (prL bv (stCs c pv)).length := by rw [hZl]; exact hszP
      obtain ⟨V9, hV9, hth9, hbh, hb9⟩ := put_any hgz (ds := prL bv (stCs c pv)) (by rw [hZl]; rfl) (by rw [hZl]; decide)
      refine step_store_rowC rfl _ _ rfl gA rfl (prL bv (stCs c pv)) rfl hth9 hZs hZo hV9 ?_
      (try simp only [Act.put, zsA, zsB, zsC])
      have hk9 : ∀ j, j ≠ gA → V9.heap[j]? = w3.heap[j]? := fun j hj => by rw [← hV9]; exact heap_setCells_other hj _ _ _
      have hs9 : w3.heap.size ≤ V9.heap.size := (hb9 0 w3 (Nat.zero_le _) (Below.refl _ _)).size
      replace hBw := hb9 _ _ (by omega) hBw
      replace hsb : BlkL w.heap.size (sbL u t) V9 := ⟨hsb.1.same (hk9 _ (by omega)), Nat.lt_of_lt_of_le hsb.2 hs9⟩
      replace hpr : BlkL (w.heap.size + 1) (prL (.slice ba nb bc) X) V9 := ⟨hpr.1.same (hk9 _ (by omega)), Nat.lt_of_lt_of_le hpr.2 hs9⟩
      replace hrs : BlkL (w.heap.size + 2) (prL nilS (stCs zeroC nilS)) V9 := ⟨hrs.1.same (hk9 _ (by omega)), Nat.lt_of_lt_of_le hrs.2 hs9⟩
      replace hloL : L0 ≤ V9.heap.size := Nat.le_trans hloL hs9
      replace hL := hL.keepG hfew hk9 hgab (by omega)
      replace hbo := hbo.keep fun j hj => hk9 j (fun q => hne1 (by rw [hj, q]))
      replace hpo := hpo.keep fun j hj => hk9 j (fun q => hne2 (by rw [hj, q]))
      clear hgz hk9 hth9 hb9 hV9 hZl hZo hZs hs9
      refine hK.out _ _ (hpr) ?_
      clear hHeld hK
      intro hHeld
      (try simp only [Act.put, zsA, zsB, zsC])
      refine wpAnyH_done (by kernel_rfl) ?_ _
      clear hHeld
      go_wp2_with fail
      go_meet
      exact ⟨B, L0, gA, l1, bv, pv, rfl, rfl, hBlo, hBL, hBw, hsb, hpr, hrs, hL, hfew, hbo, hpo, hgab, hglo, hne1, hne2, hbh, hloL⟩
    refine tkC (fun K hK => ?_) AllReadyH.nil
    have hb := alloc_below w0 (.cells zPC 47)
    refine step_allocC (z := zPC) rfl rfl (fun _ => rfl) ?_
    (try simp only [Act.put, zsA, zsB, zsC])
    refine hK.out _ _ (stab_blk _ _ _ _ hpr hb) ?_
    clear hHeld hK
    intro hHeld
    have hglo : w.heap.size + 3 ≤ w0.heap.size := hwz
    have hgz : BlkL w0.heap.size (prL nilS (stCs zeroC nilS)) (w0.alloc (.cells zPC 47)) := blkl_alloc w0 zPC 47
    have hgas : w0.heap.size < (w0.alloc (.cells zPC 47)).heap.size := hgz.2
    replace hBw := Below.then hBw hb
    replace hsb := stab_blk _ _ _ _ hsb hb
    replace hpr := stab_blk _ _ _ _ hpr hb
    replace hrs := stab_blk _ _ _ _ hrs hb
    replace hwz := Nat.le_trans hwz hb.size
    replace hrow := hrow.below hb
    replace hHeld := hHeld
    generalize w0.alloc (.cells zPC 47) = w1 at *
    generalize w0.heap.size = gA at *
    clear hb
    (try simp only [Act.put, zsA, zsB, zsC])
    refine tkR (rs := [1]) ?_
    refine tkC (fun K hK => ?_) AllReadyH.nil
    go_simp
    go_at_call 33
    refine (kown w1 hrow).mono ?_
    rintro e w2 ⟨l1, rfl, hL, hb⟩
    replace hBw := Below.then hBw hb
    replace hsb := stab_blk _ _ _ _ hsb hb
    replace hpr := stab_blk _ _ _ _ hpr hb
    replace hrs := stab_blk _ _ _ _ hrs hb
    replace hgz := stab_blk _ _ _ _ hgz hb
    obtain ⟨B, hBe⟩ : ∃ B, w1.heap.size = B := ⟨_, rfl⟩
    rw [hBe] at hL ⊢
    have hBlo : w.heap.size + 3 ≤ B := by rw [← hBe]; exact hwz
    replace hwz := Nat.le_trans hwz hb.size
    obtain ⟨L0, hL0⟩ : ∃ L0, w2.heap.size = L0 := ⟨_, rfl⟩
    have hBL : B < L0 := by rw [← hL0]; exact (hL.row.lt rfl).2
    have hfew : ∀ y ∈ l1, ∀ g, (y.av.ownBlock = some g ∨ y.wv.ownBlock = some g) → g < L0 := by rw [← hL0]; exact hL.own.few
    have hloL : L0 ≤ w2.heap.size := by rw [hL0]; exact Nat.le_refl _
    have hgab : gA < B ∨ L0 ≤ gA := .inl (by rw [← hBe]; omega)
    replace hgas : gA < w2.heap.size := Nat.lt_of_lt_of_le hgas hb.size
    clear hrow hBe hL0 hb
    refine hK.out _ _ (hpr) ?_
    clear hHeld hK
    intro hHeld
    (try simp only [Act.put, zsA, zsB, zsC])
    refine tkR (rs := [3]) ?_
    refine tkC (fun K hK => ?_) AllReadyH.nil
    go_simp
    go_at_call 34
    refine (kpro w2 (hRB.below scl_ok.len hBw) (hv.below hBw)).mono ?_
    rintro e w3 ⟨bv, pv, rfl, hbo, hpo, hb⟩
    have hloW := hloL
    have hne1 : bv.ownBlock ≠ some gA := fun q => by have := (hbo.lt q).1; omega
    have hne2 : pv.ownBlock ≠ some gA := fun q => by have := (hpo.lt q).1; omega
    replace hgas : gA < w3.heap.size := Nat.lt_of_lt_of_le hgas hb.size
    replace hBw := Below.then hBw hb
    replace hsb := stab_blk _ _ _ _ hsb hb
    replace hpr := stab_blk _ _ _ _ hpr hb
    replace hrs := stab_blk _ _ _ _ hrs hb
    replace hwz := Nat.le_trans hwz hb.size
    replace hL := hL.below hb
    replace hloL := Nat.le_trans hloL hb.size
    replace hgz := stab_blk _ _ _ _ hgz hb
    replace hbo : OwnR 9 1 scl w3 L0 bv bs := hbo.lower (by omega)
    replace hpo : OwnR 102 3 frc w3 L0 pv c.st := hpo.lower (by omega)
    clear hb
    refine hK.out _ _ (hpr) ?_
    clear hHeld hK
    intro hHeld
    (try simp only [Act.put, zsA, zsB, zsC])
    refine tkA 5 ?_
    refine tkR (rs := [6]) ?_
    refine tkC (fun K hK => ?_) AllReadyH.nil
    have hZl : (prL bv (stCs c pv)).length = 19 := by simp [st_len hc.ps]
    have hZo : ∀ y ∈ prL bv (stCs c pv), y.oneCell' = true := pr_one hbo hpo
    have hZs : (Tryz.prog.info? 47).map (·.size) = some (prL bv (stCs c pv)).length := by rw [hZl]; exact hszP
    obtain ⟨V9, hV9, hth9, hbh, hb9⟩ := put_any hgz (ds := prL bv (stCs c pv)) (by rw [hZl]; rfl) (by rw [hZl]; decide)
    refine step_store_rowC rfl _ _ rfl gA rfl (prL bv (stCs c pv)) rfl hth9 hZs hZo hV9 ?_
    (try simp only [Act.put, zsA, zsB, zsC])
    have hk9 : ∀ j, j ≠ gA → V9.heap[j]? = w3.heap[j]? := fun j hj => by rw [← hV9]; exact heap_setCells_other hj _ _ _
    have hs9 : w3.heap.size ≤ V9.heap.size := (hb9 0 w3 (Nat.zero_le _) (Below.refl _ _)).size
    replace hBw := hb9 _ _ (by omega) hBw
    replace hsb : BlkL w.heap.size (sbL u t) V9 := ⟨hsb.1.same (hk9 _ (by omega)), Nat.lt_of_lt_of_le hsb.2 hs9⟩
    replace hpr : BlkL (w.heap.size + 1) (prL (.slice ba nb bc) X) V9 := ⟨hpr.1.same (hk9 _ (by omega)), Nat.lt_of_lt_of_le hpr.2 hs9⟩
    replace hrs : BlkL (w.heap.size + 2) (prL nilS (stCs zeroC nilS)) V9 := ⟨hrs.1.same (hk9 _ (by omega)), Nat.lt_of_lt_of_le hrs.2 hs9⟩
    replace hloL : L0 ≤ V9.heap.size := Nat.le_trans hloL hs9
    replace hL := hL.keepG hfew hk9 hgab (by omega)
    replace hbo := hbo.keep fun j hj => hk9 j (fun q => hne1 (by rw [hj, q]))
    replace hpo := hpo.keep fun j hj => hk9 j (fun q => hne2 (by rw [hj, q]))
    clear hgz hk9 hth9 hb9 hV9 hZl hZo hZs hs9
    refine hK.out _ _ (hpr) ?_
    clear hHeld hK
    intro hHeld
    (try simp only [Act.put, zsA, zsB, zsC])
    refine wpAnyH_done (by kernel_rfl) ?_ _
    clear hHeld
    go_wp2_with fail
    go_meet
    exact ⟨B, L0, gA, l1, bv, pv, rfl, rfl, hBlo, hBL, hBw, hsb, hpr, hrs, hL, hfew, hbo, hpo, hgab, hglo, hne1, hne2, hbh, hloL⟩
  case rest =>
    clear hsb hpr hrs hBw hwz hrow kown kpro h
    obtain ⟨B, L0, gA, l1, bv, pv, rfl, rfl, hBlo, hBL, hBw, hsb, hpr, hrs, hOL, hfew, hbo, hpo, hgab, hglo, hne1, hne2, hbh, hszL⟩ := hcut
    have hnm := hOL.rowN.2.1
    have hF1 := fine_names hF hnm
    have hln1 := hOL.len
    have kkn := fun (W : World) r q s v => pknown_any B n l1 u t ba bc bs hF1 hGt (by rw [hnb.out]; exact hbs) hps W r q s v
    have kst := fun (W : World) mb (p : PMq W B L0 mb n u t bs l1) s => psteps_any (bm := mb) c pv n0 R hn0 (by rw [hnb.out]; exact hbs) (by rw [hnm]; exact hI) hc hh (by rw [hnm]; exact hR) W p s
    rw [hln1, hnb.out] at kkn
    have hS4 : S4 w.heap.size gA u t ba nb bc X bv c pv wc := ⟨hbh, hsb, hpr⟩
    have hszC : (Tryz.prog.info? 45).map (·.size) = some (stCs c pv).length := by rw [st_len hc.ps]; exact hszT
    have hss : (Tryz.prog.info? 52).map (·.size) = some (sbL u t).length := by kernel_rfl
    have hundS := Tryz.underlying52
    clear hbh hsb hpr hnm hF1 hln1 hF hI hGt hps hh hR
    go_upto_region 4 with fail
    obtain ⟨W1, hW1⟩ : ∃ W1, W1 = wc := ⟨_, rfl⟩
    rw [← hW1] at hBw hrs hOL hbo hpo hS4 hszL ⊢
    clear hW1
    have hdr : Below W1.heap.size W1 W1.drew := (Below.refl _ _).drew
    replace hBw : Below w.heap.size w W1.drew := hBw.drew
    replace hrs : BlkL (w.heap.size + 2) (prL nilS (stCs zeroC nilS)) W1.drew := stab_blk _ _ _ _ hrs hdr
    replace hOL : OwnL W1.drew B n l n l1 := hOL.below hdr
    replace hbo : OwnR 9 1 scl W1.drew L0 bv bs := hbo.below hdr
    replace hpo : OwnR 102 3 frc W1.drew L0 pv c.st := hpo.below hdr
    replace hS4 : S4 w.heap.size gA u t ba nb bc X bv c pv W1.drew := hS4.then hdr
    replace hszL : L0 ≤ W1.drew.heap.size := hszL
    clear hdr
    go_cut [15, 16, 17] from 29 (fun s15 s16 s17 wd => ∃ (g15 mb : Nat) (l2 : List PN) (v2 tv : Value), s15 = .pointer (some ⟨g15, 0, none⟩) ∧ tv = s16 ∧ s17 = .int .i64 R.e ∧ Below w.heap.size w wd ∧ BlkL (w.heap.size + 2) (prL nilS (stCs zeroC nilS)) wd ∧ BlkL gA (prL bv (stCs c pv)) wd ∧ BlkL g15 (stCs R.c v2) wd ∧ PMq wd B L0 mb n u t bs l2 ∧ namesP l2 = R.l ∧ InvP R.l ∧ R.c.Ok ∧ OwnR 102 3 frc wd L0 v2 R.c.st ∧ OwnR 2 1 wcl wd (w.heap.size + 3) tv R.out ∧ OwnR 9 1 scl wd L0 bv bs ∧ R.over = (R.c.hl || (R.e != 0)) ∧ v2.ownBlock ≠ some gA ∧ tv.ownBlock ≠ some gA ∧ w.heap.size + 3 ≤ g15 ∧ g15 ≠ gA ∧ mb ≠ gA)
    · skip
      refine wp_region_held_drew (S := (fun W => S4 w.heap.size gA u t ba nb bc X bv c pv W)) (by kernel_rfl) (by exact hS4) ?_
      intro hHeld
      generalize W1.drew = w0 at *
      refine tkA 0 ?_
      refine tkB 1 (y := yieldsIf_load_mid (by rfl) 45 _ rfl gA 1 rfl (stCs c pv) _ (fun W s => s.st) hundT rfl hszC) (h := ?_)
      refine tkA 2 ?_
      refine tkB 3 (y := yieldsIf_load_mid (by rfl) 52 _ rfl w.heap.size 0 rfl (sbL u t) _ (fun W s => s.s.range) hundS rfl hss) (h := ?_)
      refine tkA 4 ?_
      refine tkB 5 (y := yields_cellI (by rfl) _ rfl ⟨w.heap.size + 1, 0, none⟩ rfl (.slice ba nb bc) (fun _ s => (s.p.1 0 _ rfl).1) strsL_load) (h := ?_)
      refine tkA 8 ?_
      refine tkR (rs := [6, 14]) ?_
      refine tkC (fun K hK => ?_) ?_
      · go_simp
        go_at_call 36
        refine (kkn w0 (hOL.rowN.1) (by omega) (hRB.below scl_ok.len hBw) (hV.below hBw)).mono ?_
        rintro e w1 ⟨mb, rfl, hmb, hmap, hb⟩
        have hmL : L0 ≤ mb := Nat.le_trans hszL hmb
        have hmA : gA < mb := Nat.lt_of_lt_of_le hS4.a.2 hmb
        replace hBw := Below.then hBw hb
        replace hS4 := hS4.then hb
        replace hrs := stab_blk _ _ _ _ hrs hb
        replace hbo := hbo.below hb
        replace hszL := Nat.le_trans hszL hb.size
        replace hpo := hpo.below hb
        replace hOL := hOL.below hb
        clear hb
        refine hK.out _ _ (hS4) ?_
        clear hHeld hK
        intro hHeld
        (try simp only [Act.put, zsA, zsB, zsC])
        refine tkA 7 ?_
        refine tkR (rs := [9, 14]) ?_
        refine tkC (fun K hK => ?_) ?_
        · go_simp
          go_at_call 35
          refine (kst w1 mb (hOL.pm hfew hBL hmap hmL) hpo).mono ?_
          rintro e w2 ⟨l2, v2, tv, rfl, hPM, hl2, hIR, hcR, hstk, hout, hov, hoth, hnew⟩
          have hsz : w.heap.size + 3 ≤ w1.heap.size := by omega
          have hnA : v2.ownBlock ≠ some gA := fun q => by have h9 := hS4.a.2; rcases hnew gA q with r | r; exact hne2 r; omega
          have hnT : tv.ownBlock ≠ some gA := fun q => by have h9 := hS4.a.2; have := (hout.lt q).1; omega
          replace hBw : Below w.heap.size w w2 := hBw.trans ⟨hoth.os, hoth.tape, hoth.output, hoth.size, fun j hj => hoth.block j (by omega) (.inl (by omega))⟩
          replace hrs := hoth.blk hrs hrs.2 (.inl (by omega))
          replace hbo := hbo.keep fun j hj => hoth.block j (hbo.lt hj).2 (.inr (hbo.lt hj).1)
          replace hS4 := hS4.oth hoth (by omega) hgab
          replace hszL := Nat.le_trans hszL hoth.size
          replace hout := hout.lower (b := w.heap.size + 3) (by omega)
          clear hOL hpo hmap hoth hnew
          refine hK.out _ _ (hS4) ?_
          clear hHeld hK
          intro hHeld
          (try simp only [Act.put, zsA, zsB, zsC])
          refine tkA 10 ?_
          refine tkA 11 ?_
          refine tkA 12 ?_
          refine tkA 13 ?_
          refine tkR (rs := [14]) ?_
          refine tkC (fun K hK => ?_) AllReadyH.nil
          have hb := alloc_below w2 (.cells Z18C 45)
          refine step_allocC (z := Z18C) rfl rfl (fun _ => rfl) ?_
          (try simp only [Act.put, zsA, zsB, zsC])
          refine hK.out _ _ (hS4.then hb) ?_
          clear hHeld hK
          intro hHeld
          have hn15 : v2.ownBlock ≠ some w2.heap.size := fun q => by have := (hstk.lt q).2; omega
          have ht15 : tv.ownBlock ≠ some w2.heap.size := fun q => by have := (hout.lt q).2; omega
          have hm15 : mb < w2.heap.size := by have := hPM.map.lt; omega
          have hb15 : bv.ownBlock ≠ some w2.heap.size := fun q => by have := (hbo.lt q).2; omega
          have hg15L : L0 ≤ w2.heap.size := hszL
          have hgA15 : w2.heap.size ≠ gA := fun q => by have := hS4.a.2; omega
          have hg3 : w.heap.size + 3 ≤ w2.heap.size := by omega
          have hg15 : BlkL w2.heap.size (stCs zeroC nilS) (w2.alloc (.cells Z18C 45)) := blkl_alloc w2 Z18C 45
          have hg15s : w2.heap.size < (w2.alloc (.cells Z18C 45)).heap.size := hg15.2
          replace hBw := Below.then hBw hb
          replace hS4 := hS4.then hb
          replace hrs := stab_blk _ _ _ _ hrs hb
          replace hbo := hbo.below hb
          replace hszL := Nat.le_trans hszL hb.size
          replace hPM := hPM.below hb
          replace hstk := hstk.below hb
          replace hout := hout.below hb
          replace hHeld := hHeld
          generalize w2.alloc (.cells Z18C 45) = w3 at *
          generalize w2.heap.size = g15 at *
          clear hb
          (try simp only [Act.put, zsA, zsB, zsC])
          refine tkR (rs := [15]) ?_
          refine tkC (fun K hK => ?_) AllReadyH.nil
          obtain ⟨sa, sc, hsv, -⟩ := hstk.slice frc_len
          have hZl : (stCs R.c v2).length = 18 := st_len hcR.ps
          have hZo : ∀ y ∈ stCs R.c v2, y.oneCell' = true := st_one R.c v2 (by rw [hsv]; rfl)
          have hZs : (Tryz.prog.info? 45).map (·.size) = some (stCs R.c v2).length := by rw [hZl]; exact hszT
          obtain ⟨V9, hV9, hth9, hgn, hb9⟩ := put_any hg15 (ds := stCs R.c v2) (by rw [hZl]; rfl) (by rw [hZl]; decide)
          refine step_store_rowC rfl _ _ rfl g15 rfl (stCs R.c v2) rfl hth9 hZs hZo hV9 ?_
          (try simp only [Act.put, zsA, zsB, zsC])
          have hk9 : ∀ j, j ≠ g15 → V9.heap[j]? = w3.heap[j]? := fun j hj => by rw [← hV9]; exact heap_setCells_other hj _ _ _
          have hs9 : w3.heap.size ≤ V9.heap.size := (hb9 0 w3 (Nat.zero_le _) (Below.refl _ _)).size
          replace hBw := hb9 _ _ (by omega) hBw
          replace hrs : BlkL (w.heap.size + 2) (prL nilS (stCs zeroC nilS)) V9 := ⟨hrs.1.same (hk9 _ (by omega)), Nat.lt_of_lt_of_le hrs.2 hs9⟩
          replace hS4 := hS4.keep hk9 hs9 hg3 hgA15
          replace hg15 := hgn
          replace hbo := hbo.keep fun j hj => hk9 j (fun q => hb15 (by rw [hj, q]))
          replace hPM := hPM.keep fun j hj => hk9 j (by rcases hj with hj | hj <;> omega)
          replace hstk := hstk.keep fun j hj => hk9 j (fun q => hn15 (by rw [hj, q]))
          replace hout := hout.keep fun j hj => hk9 j (fun q => ht15 (by rw [hj, q]))
          replace hmA : mb ≠ gA := by omega
          clear hk9 hth9 hb9 hV9 hZl hZo hZs hs9 hgn hsv
          refine hK.out _ _ (hS4) ?_
          clear hHeld hK
          intro hHeld
          (try simp only [Act.put, zsA, zsB, zsC])
          refine tkA 16 ?_
          refine tkA 17 ?_
          refine wpAnyH_done (by kernel_rfl) ?_ _
          clear hHeld
          go_wp2_with fail
          go_meet
          exact ⟨g15, mb, l2, v2, tv, rfl, rfl, rfl, hBw, hrs, hS4.a, hg15, hPM, hl2, hIR, hcR, hstk, hout, hbo, hov, hnA, hnT, hg3, hgA15, hmA⟩
        refine tkC (fun K hK => ?_) AllReadyH.nil
        have hb := alloc_below w1 (.cells Z18C 45)
        refine step_allocC (z := Z18C) rfl rfl (fun _ => rfl) ?_
        (try simp only [Act.put, zsA, zsB, zsC])
        refine hK.out _ _ (hS4.then hb) ?_
        clear hHeld hK
        intro hHeld
        have hp15 : pv.ownBlock ≠ some w1.heap.size := fun q => by have := (hpo.lt q).2; omega
        have hm15 : mb < w1.heap.size := by have := hmap.lt; omega
        have hb15 : bv.ownBlock ≠ some w1.heap.size := fun q => by have := (hbo.lt q).2; omega
        have hg15L : L0 ≤ w1.heap.size := hszL
        have hgA15 : w1.heap.size ≠ gA := fun q => by have := hS4.a.2; omega
        have hg3 : w.heap.size + 3 ≤ w1.heap.size := by omega
        have hg15 : BlkL w1.heap.size (stCs zeroC nilS) (w1.alloc (.cells Z18C 45)) := blkl_alloc w1 Z18C 45
        have hg15s : w1.heap.size < (w1.alloc (.cells Z18C 45)).heap.size := hg15.2
        replace hBw := Below.then hBw hb
        replace hS4 := hS4.then hb
        replace hrs := stab_blk _ _ _ _ hrs hb
        replace hbo := hbo.below hb
        replace hszL := Nat.le_trans hszL hb.size
        replace hpo := hpo.below hb
        replace hOL := hOL.below hb
        replace hmap := hmap.same (hb.block _ hmap.lt)
        replace hHeld := hHeld
        generalize w1.alloc (.cells Z18C 45) = w2 at *
        generalize w1.heap.size = g15 at *
        clear hb
        (try simp only [Act.put, zsA, zsB, zsC])
        refine tkR (rs := [9]) ?_
        refine tkC (fun K hK => ?_) AllReadyH.nil
        go_simp
        go_at_call 35
        refine (kst w2 mb (hOL.pm hfew hBL hmap hmL) hpo).mono ?_
        rintro e w3 ⟨l2, v2, tv, rfl, hPM, hl2, hIR, hcR, hstk, hout, hov, hoth, hnew⟩
        have hsz : w.heap.size + 3 ≤ w2.heap.size := by omega
        have hnA : v2.ownBlock ≠ some gA := fun q => by have h9 := hS4.a.2; rcases hnew gA q with r | r; exact hne2 r; omega
        have hnT : tv.ownBlock ≠ some gA := fun q => by have h9 := hS4.a.2; have := (hout.lt q).1; omega
        have hn15 : v2.ownBlock ≠ some g15 := fun q => by rcases hnew g15 q with r | r; exact hp15 r; omega
        have ht15 : tv.ownBlock ≠ some g15 := fun q => by have := (hout.lt q).1; omega
        replace hg15 := hoth.blk hg15 hg15s (.inr hg15L)
        replace hBw : Below w.heap.size w w3 := hBw.trans ⟨hoth.os, hoth.tape, hoth.output, hoth.size, fun j hj => hoth.block j (by omega) (.inl (by omega))⟩
        replace hrs := hoth.blk hrs hrs.2 (.inl (by omega))
        replace hbo := hbo.keep fun j hj => hoth.block j (hbo.lt hj).2 (.inr (hbo.lt hj).1)
        replace hS4 := hS4.oth hoth (by omega) hgab
        replace hszL := Nat.le_trans hszL hoth.size
        replace hout := hout.lower (b := w.heap.size + 3) (by omega)
        clear hOL hpo hmap hoth hnew
        refine hK.out _ _ (hS4) ?_
        clear hHeld hK
        intro hHeld
        (try simp only [Act.put, zsA, zsB, zsC])
        refine tkA 10 ?_
        refine tkA 11 ?_
        refine tkA 12 ?_
        refine tkA 13 ?_
        refine tkR (rs := [15]) ?_
        refine tkC (fun K hK => ?_) AllReadyH.nil
        obtain ⟨sa, sc, hsv, -⟩ := hstk.slice frc_len
        have hZl : (stCs R.c v2).length = 18 := st_len hcR.ps
        have hZo : ∀ y ∈ stCs R.c v2, y.oneCell' = true := st_one R.c v2 (by rw [hsv]; rfl)
        have hZs : (Tryz.prog.info? 45).map (·.size) = some (stCs R.c v2).length := by rw [hZl]; exact hszT
        obtain ⟨V9, hV9, hth9, hgn, hb9⟩ := put_any hg15 (ds := stCs R.c v2) (by rw [hZl]; rfl) (by rw [hZl]; decide)
        refine step_store_rowC rfl _ _ rfl g15 rfl (stCs R.c v2) rfl hth9 hZs hZo hV9 ?_
        (try simp only [Act.put, zsA, zsB, zsC])
        have hk9 : ∀ j, j ≠ g15 → V9.heap[j]? = w3.heap[j]? := fun j hj => by rw [← hV9]; exact heap_setCells_other hj _ _ _
        have hs9 : w3.heap.size ≤ V9.heap.size := (hb9 0 w3 (Nat.zero_le _) (Below.refl _ _)).size
        replace hBw := hb9 _ _ (by omega) hBw
        replace hrs : BlkL (w.heap.size + 2) (prL nilS (stCs zeroC nilS)) V9 := ⟨hrs.1.same (hk9 _ (by omega)), Nat.lt_of_lt_of_le hrs.2 hs9⟩
        replace hS4 := hS4.keep hk9 hs9 hg3 hgA15
        replace hg15 := hgn
        replace hbo := hbo.keep fun j hj => hk9 j (fun q => hb15 (by rw [hj, q]))
        replace hPM := hPM.keep fun j hj => hk9 j (by rcases hj with hj | hj <;> omega)
        replace hstk := hstk.keep fun j hj => hk9 j (fun q => hn15 (by rw [hj, q]))
        replace hout := hout.keep fun j hj => hk9 j (fun q => ht15 (by rw [hj, q]))
        replace hmA : mb ≠ gA := by omega
        clear hk9 hth9 hb9 hV9 hZl hZo hZs hs9 hgn hsv
        refine hK.out _ _ (hS4) ?_
        clear hHeld hK
        intro hHeld
        (try simp only [Act.put, zsA, zsB, zsC])
        refine tkA 16 ?_
        refine tkA 17 ?_
        refine wpAnyH_done (by kernel_rfl) ?_ _
        clear hHeld
        go_wp2_with fail
        go_meet
        exact ⟨g15, mb, l2, v2, tv, rfl, rfl, rfl, hBw, hrs, hS4.a, hg15, hPM, hl2, hIR, hcR, hstk, hout, hbo, hov, hnA, hnT, hg3, hgA15, hmA⟩
      refine tkC (fun K hK => ?_) AllReadyH.nil
      have hb := alloc_below w0 (.cells Z18C 45)
      refine step_allocC (z := Z18C) rfl rfl (fun _ => rfl) ?_
      (try simp only [Act.put, zsA, zsB, zsC])
      refine hK.out _ _ (hS4.then hb) ?_
      clear hHeld hK
      intro hHeld
      have hp15 : pv.ownBlock ≠ some w0.heap.size := fun q => by have := (hpo.lt q).2; omega
      have hb15 : bv.ownBlock ≠ some w0.heap.size := fun q => by have := (hbo.lt q).2; omega
      have hg15L : L0 ≤ w0.heap.size := hszL
      have hgA15 : w0.heap.size ≠ gA := fun q => by have := hS4.a.2; omega
      have hg3 : w.heap.size + 3 ≤ w0.heap.size := by omega
      have hg15 : BlkL w0.heap.size (stCs zeroC nilS) (w0.alloc (.cells Z18C 45)) := blkl_alloc w0 Z18C 45
      have hg15s : w0.heap.size < (w0.alloc (.cells Z18C 45)).heap.size := hg15.2
      replace hBw := Below.then hBw hb
      replace hS4 := hS4.then hb
      replace hrs := stab_blk _ _ _ _ hrs hb
      replace hbo := hbo.below hb
      replace hszL := Nat.le_trans hszL hb.size
      replace hpo := hpo.below hb
      replace hOL := hOL.below hb
      replace hHeld := hHeld
      generalize w0.alloc (.cells Z18C 45) = w1 at *
      generalize w0.heap.size = g15 at *
      clear hb
      (try simp only [Act.put, zsA, zsB, zsC])
      refine tkR (rs := [6]) ?_
      refine tkC (fun K hK => ?_) AllReadyH.nil
      go_simp
      go_at_call 36
      refine (kkn w1 (hOL.rowN.1) (by omega) (hRB.below scl_ok.len hBw) (hV.below hBw)).mono ?_
      rintro e w2 ⟨mb, rfl, hmb, hmap, hb⟩
      have hmL : L0 ≤ mb := Nat.le_trans hszL hmb
      have hmA : gA < mb := Nat.lt_of_lt_of_le hS4.a.2 hmb
      replace hBw := Below.then hBw hb
      replace hS4 := hS4.then hb
      replace hrs := stab_blk _ _ _ _ hrs hb
      replace hbo := hbo.below hb
      replace hszL := Nat.le_trans hszL hb.size
      replace hpo := hpo.below hb
      replace hOL := hOL.below hb
      replace hg15 := stab_blk _ _ _ _ hg15 hb
      have hm15 : g15 < mb := Nat.lt_of_lt_of_le hg15s hmb
      replace hg15s : g15 < w2.heap.size := Nat.lt_of_lt_of_le hg15s hb.size
      clear hb
      refine hK.out _ _ (hS4) ?_
      clear hHeld hK
      intro hHeld
      (try simp only [Act.put, zsA, zsB, zsC])
      refine tkA 7 ?_
      refine tkR (rs := [9]) ?_
      refine tkC (fun K hK => ?_) AllReadyH.nil
      go_simp
      go_at_call 35
      refine (kst w2 mb (hOL.pm hfew hBL hmap hmL) hpo).mono ?_
      rintro e w3 ⟨l2, v2, tv, rfl, hPM, hl2, hIR, hcR, hstk, hout, hov, hoth, hnew⟩
      have hsz : w.heap.size + 3 ≤ w2.heap.size := by omega
      have hnA : v2.ownBlock ≠ some gA := fun q => by have h9 := hS4.a.2; rcases hnew gA q with r | r; exact hne2 r; omega
      have hnT : tv.ownBlock ≠ some gA := fun q => by have h9 := hS4.a.2; have := (hout.lt q).1; omega
      have hn15 : v2.ownBlock ≠ some g15 := fun q => by rcases hnew g15 q with r | r; exact hp15 r; omega
      have ht15 : tv.ownBlock ≠ some g15 := fun q => by have := (hout.lt q).1; omega
      replace hg15 := hoth.blk hg15 hg15s (.inr hg15L)
      replace hBw : Below w.heap.size w w3 := hBw.trans ⟨hoth.os, hoth.tape, hoth.output, hoth.size, fun j hj => hoth.block j (by omega) (.inl (by omega))⟩
      replace hrs := hoth.blk hrs hrs.2 (.inl (by omega))
      replace hbo := hbo.keep fun j hj => hoth.block j (hbo.lt hj).2 (.inr (hbo.lt hj).1)
      replace hS4 := hS4.oth hoth (by omega) hgab
      replace hszL := Nat.le_trans hszL hoth.size
      replace hout := hout.lower (b := w.heap.size + 3) (by omega)
      clear hOL hpo hmap hoth hnew
      refine hK.out _ _ (hS4) ?_
      clear hHeld hK
      intro hHeld
      (try simp only [Act.put, zsA, zsB, zsC])
      refine tkA 10 ?_
      refine tkA 11 ?_
      refine tkA 12 ?_
      refine tkA 13 ?_
      refine tkR (rs := [15]) ?_
      refine tkC (fun K hK => ?_) AllReadyH.nil
      obtain ⟨sa, sc, hsv, -⟩ := hstk.slice frc_len
      have hZl : (stCs R.c v2).length = 18 := st_len hcR.ps
      have hZo : ∀ y ∈ stCs R.c v2, y.oneCell' = true := st_one R.c v2 (by rw [hsv]; rfl)
      have hZs : (Tryz.prog.info? 45).map (·.size) = some (stCs R.c v2).length := by rw [hZl]; exact hszT
      obtain ⟨V9, hV9, hth9, hgn, hb9⟩ := put_any hg15 (ds := stCs R.c v2) (by rw [hZl]; rfl) (by rw [hZl]; decide)
      refine step_store_rowC rfl _ _ rfl g15 rfl (stCs R.c v2) rfl hth9 hZs hZo hV9 ?_
      (try simp only [Act.put, zsA, zsB, zsC])
      have hk9 : ∀ j, j ≠ g15 → V9.heap[j]? = w3.heap[j]? := fun j hj => by rw [← hV9]; exact heap_setCells_other hj _ _ _
      have hs9 : w3.heap.size ≤ V9.heap.size := (hb9 0 w3 (Nat.zero_le _) (Below.refl _ _)).size
      replace hBw := hb9 _ _ (by omega) hBw
      replace hrs : BlkL (w.heap.size + 2) (prL nilS (stCs zeroC nilS)) V9 := ⟨hrs.1.same (hk9 _ (by omega)), Nat.lt_of_lt_of_le hrs.2 hs9⟩
      replace hS4 := hS4.keep hk9 hs9 hg3 hgA15
      replace hg15 := hgn
      replace hbo := hbo.keep fun j hj => hk9 j (fun q => hb15 (by rw [hj, q]))
      replace hPM := hPM.keep fun j hj => hk9 j (by rcases hj with hj | hj <;> omega)
      replace hstk := hstk.keep fun j hj => hk9 j (fun q => hn15 (by rw [hj, q]))
      replace hout := hout.keep fun j hj => hk9 j (fun q => ht15 (by rw [hj, q]))
      replace hmA : mb ≠ gA := by omega
      clear hk9 hth9 hb9 hV9 hZl hZo hZs hs9 hgn hsv
      refine hK.out _ _ (hS4) ?_
      clear hHeld hK
      intro hHeld
      (try simp only [Act.put, zsA, zsB, zsC])
      refine tkA 16 ?_
      refine tkA 17 ?_
      refine wpAnyH_done (by kernel_rfl) ?_ _
      clear hHeld
      go_wp2_with fail
      go_meet
      exact ⟨g15, mb, l2, v2, tv, rfl, rfl, rfl, hBw, hrs, hS4.a, hg15, hPM, hl2, hIR, hcR, hstk, hout, hbo, hov, hnA, hnT, hg3, hgA15, hmA⟩
    case rest =>
      clear hS4 hBw hrs hOL hbo hpo hszL kkn kst
      obtain ⟨g15, mb, l2, v2, tv, rfl, rfl, rfl, hBw, hrs, hbh, hg15, hPM, hl2, hIR, hcR, hstk, hout, hbo, hov, hnA, hnT, hg3, hgA15, hmA⟩ := hcut
      have hlY : (stCs R.c v2).length = 18 := st_len hcR.ps
      have hx17 := (hg15.1 17 _ (st_hl hcR.ps)).1
      obtain ⟨sa, sc, hsv, -⟩ := hstk.slice frc_len
      have hYo : ∀ y ∈ stCs R.c v2, y.oneCell' = true := st_one R.c v2 (by rw [hsv]; rfl)
      obtain ⟨sa2, sc2, hbv, -⟩ := hbo.slice scl_ok.len
      have hlX : (stCs c pv).length = 18 := st_len hc.ps
      obtain ⟨W4, hW4, hth4, hp4, hb4⟩ := put_mid (Z := w) hbh 1 (stCs R.c v2) (by simp [hlX, hlY]) (by simp) hBw (by omega)
      rw [show setM (prL bv (stCs c pv)) 1 (stCs R.c v2) = prL bv (stCs R.c v2) from setM_all (stCs R.c v2) (stCs c pv) [bv] (by rw [hlX, hlY])] at hp4
      have hk4 : ∀ j, j ≠ gA → W4.heap[j]? = wc.heap[j]? := fun j hj => by rw [← hW4]; exact heap_setCells_other hj _ _ _
      have hs4 : wc.heap.size ≤ W4.heap.size := by rw [← hW4]; exact (Below.cells (B := 0) (b := gA) (Nat.zero_le _) (stCs R.c v2) 1 (Below.refl 0 wc)).size
      have hrs4 : BlkL (w.heap.size + 2) (prL nilS (stCs zeroC nilS)) W4 := ⟨hrs.1.same (hk4 _ (by omega)), Nat.lt_of_lt_of_le hrs.2 hs4⟩
      have hPM4 := hPM.keep fun j hj => hk4 j (by rcases hj with hj | hj <;> omega)
      have hstk4 := hstk.keep fun j hj => hk4 j (fun q => hnA (by rw [hj, q]))
      have hout4 := hout.keep fun j hj => hk4 j (fun q => hnT (by rw [hj, q]))
      have hbo4 := hbo.keep fun j hj => hk4 j (fun q => hne1 (by rw [hj, q]))
      have hx4 : W4.drew.cell? ⟨g15, 17, none⟩ = some (.bool R.c.hl) := (World.cell?_of_block (a := ⟨g15, 17, none⟩) (hk4 g15 hgA15)).trans hx17
      have hrA : W4.drew.rangeAt gA 0 (prL bv (stCs R.c v2)) := hp4.range
      have hg15r := hg15.range
      have hsY : (Tryz.prog.info? 45).map (·.size) = some (stCs R.c v2).length := by rw [hlY]; exact hszT
      have hoP : ∀ y ∈ prL bv (stCs R.c v2), y.oneCell' = true := fun y hy => (List.mem_cons.1 hy).elim (fun q => by rw [q, hbv]; rfl) (fun q => hYo y q)
      have hsP : (Tryz.prog.info? 47).map (·.size) = some (prL bv (stCs R.c v2)).length := by rw [hszP]; simp [hlY]
      have hrs5 : BlkL (w.heap.size + 2) (prL nilS (stCs zeroC nilS)) W4.drew := stab_blk _ _ _ _ hrs4 (Below.refl _ _).drew
      obtain ⟨W5, hW5, hth5, hk5, hb5⟩ := put_any hrs5 (ds := prL bv (stCs R.c v2)) (by simp [hlY, st_len (c := zeroC) (v := nilS) rfl]) (by simp)
      have hr5 := hk5.range
      have hB5 : Below w.heap.size w W5 := hb5 _ _ (by omega) hb4.drew
      have hkk : ∀ j, j ≠ w.heap.size + 2 → W5.heap[j]? = W4.heap[j]? := fun j hj => by rw [← hW5]; exact heap_setCells_other hj _ _ _
      have hPM5 := hPM4.keep (W' := W5) fun j hj => hkk j (by have := hPM4.bm; rcases hj with hj | hj <;> omega)
      have hstk5 : OwnR 102 3 frc W5 w.heap.size v2 R.c.st := (hstk4.keep fun j hj => hkk j (by have := (hstk4.lt hj).1; omega)).lower (by omega)
      have hout5 : OwnR 2 1 wcl W5 w.heap.size tv R.out := (hout4.keep fun j hj => hkk j (by have := (hout4.lt hj).1; omega)).lower (by omega)
      have hbo5 : OwnR 9 1 scl W5 w.heap.size bv bs := (hbo4.keep fun j hj => hkk j (by have := (hbo4.lt hj).1; omega)).lower (by omega)
      have hend : RunP bs n R w (.returned (.tuple #[.slice (some ⟨B, 0, none⟩) n n, .agg (prL bv (stCs R.c v2)).toArray, tv, .bool R.over, .int .i64 R.e])) W5 := ⟨l2, B, bv, v2, tv, rfl, hPM5.ln, by omega, hPM5.rowN, hPM5.own, hl2, hIR, hcR, hbo5, hstk5, hout5, hB5⟩
      have hkA : W5.heap[gA]? = W4.heap[gA]? := hkk gA (by omega)
      have hk15 : W5.heap[g15]? = W4.heap[g15]? := hkk g15 (by omega)
      have hxA : W5.rangeAt gA 0 (prL bv (stCs R.c v2)) := fun j v hv => (World.cell?_of_block (a := ⟨gA, 0 + j, none⟩) hkA).trans (hrA j v hv)
      have hx5 : W5.cell? ⟨g15, 17, none⟩ = some (.bool R.c.hl) := (World.cell?_of_block (a := ⟨g15, 17, none⟩) hk15).trans hx4
      clear hPM hPM4 hPM5 hstk hstk4 hstk5 hout hout4 hout5 hbo hbo4 hbo5 hBw hrs hrs4 hrs5 hbh hg15 hp4 hb4 hb5 hk5 hB5 hk4 hkk hkA hk15 hx17 hl2 hIR hnA hnT
      obtain ⟨Y, hY⟩ : ∃ Y, stCs R.c v2 = Y := ⟨_, rfl⟩
      rw [hY] at hlY hYo hW4 hth4 hrA hg15r hsY hoP hsP hW5 hth5 hr5 hend hxA
      clear hY hlX hcR
      obtain ⟨E, hE⟩ : ∃ E, R.e = E := ⟨_, rfl⟩
      obtain ⟨ov, hove⟩ : ∃ o, R.over = o := ⟨_, rfl⟩
      rw [hE] at hov hend ⊢
      rw [hove] at hov hend
      clear hE hove
      go_upto_region 6 with (first | (refine wpList_load_row rfl _ rfl g15 rfl Y hg15r hundT rfl hsY ?_) | (refine wpList_store_part rfl _ _ rfl gA 1 rfl Y rfl hth4 hsY hYo hW4 ?_) | fail)
      clear hth4 hW4 hg15r
      cases hhl : R.c.hl
      · rw [hhl, Bool.false_or] at hov
        rw [hhl] at hx4 hx5
        subst hov
        have hS0 : W4.drew.rangeAt gA 0 (prL bv Y) ∧ W4.drew.cell? ⟨g15, 17, none⟩ = some (.bool false) := ⟨hrA, hx4⟩
        have hS9 : W5.rangeAt gA 0 (prL bv Y) ∧ W5.cell? ⟨g15, 17, none⟩ = some (.bool false) := ⟨hxA, hx5⟩
        refine wp_region_held_drew (S := (fun W => W.rangeAt gA 0 (prL bv Y) ∧ W.cell? ⟨g15, 17, none⟩ = some (.bool false))) (by kernel_rfl) (by first | exact hS0 | exact hS9) ?_
        intro hHeld
        (first | (refine tkA 0 ?_) | (refine tkB (v := undef) 0 (y := Or.inr ⟨by rfl, rfl⟩) (h := ?_)) | fail)
        (first | (refine tkB 1 (y := yieldsIf_load_mid (by rfl) 47 _ rfl gA 0 rfl (prL bv Y) _ (fun W s => s.1) hundP rfl hsP) (h := ?_)) | (refine tkB (v := undef) 1 (y := Or.inr ⟨by rfl, rfl⟩) (h := ?_)) | fail)
        (first | (refine tkA 2 ?_) | (refine tkB (v := undef) 2 (y := Or.inr ⟨by rfl, rfl⟩) (h := ?_)) | fail)
        (first | (refine tkA 3 ?_) | (refine tkB (v := undef) 3 (y := Or.inr ⟨by rfl, rfl⟩) (h := ?_)) | fail)
        (first | (refine tkB 4 (y := yields_cellI (by rfl) _ rfl ⟨g15, 17, none⟩ rfl (.bool false) (fun _ s => s.2) boolP_load) (h := ?_)) | (refine tkB (v := undef) 4 (y := Or.inr ⟨by rfl, rfl⟩) (h := ?_)) | fail)
        (first | (refine tkA 5 ?_) | (refine tkB (v := undef) 5 (y := Or.inr ⟨by rfl, rfl⟩) (h := ?_)) | fail)
        (first | (refine tkA 6 ?_) | (refine tkB (v := undef) 6 (y := Or.inr ⟨by rfl, rfl⟩) (h := ?_)) | fail)
        (first | (refine tkA 7 ?_) | (refine tkB (v := undef) 7 (y := Or.inr ⟨by rfl, rfl⟩) (h := ?_)) | fail)
        (first | (refine tkA 8 ?_) | (refine tkB (v := undef) 8 (y := Or.inr ⟨by rfl, rfl⟩) (h := ?_)) | fail)
        (first | (refine tkA 9 ?_) | (refine tkB (v := undef) 9 (y := Or.inr ⟨by rfl, rfl⟩) (h := ?_)) | fail)
        (first | (refine tkA 10 ?_) | (refine tkB (v := undef) 10 (y := Or.inr ⟨by rfl, rfl⟩) (h := ?_)) | fail)
        refine tkR (rs := [11]) ?_; refine tkC (fun K hK => ?_) AllReadyH.nil; refine step_store_rowC rfl _ _ rfl (w.heap.size + 2) rfl (prL bv Y) rfl hth5 hsP hoP hW5 ?_; (try simp only [Act.put, zsA, zsB, zsC]); refine hK.out _ _ (by first | exact hS0 | exact hS9) ?_; clear hHeld hK; intro hHeld; (try simp only [Act.put, zsA, zsB, zsC])
        (first | (refine tkA 12 ?_) | (refine tkB (v := undef) 12 (y := Or.inr ⟨by rfl, rfl⟩) (h := ?_)) | fail)
        (first | (refine tkA 13 ?_) | (refine tkB (v := undef) 13 (y := Or.inr ⟨by rfl, rfl⟩) (h := ?_)) | fail)
        (first | (refine tkA 14 ?_) | (refine tkB (v := undef) 14 (y := Or.inr ⟨by rfl, rfl⟩) (h := ?_)) | fail)
        refine wpAnyH_done (by kernel_rfl) ?_ _
        clear hHeld
        go_wp2_with fail
        refine bodyPost_ret (v := _) (results_run rfl _ _ (w.heap.size + 2) rfl _ _ _ _ rfl rfl rfl rfl (prL bv Y) hr5 hundP rfl hsP) rfl ?_
        exact hend
      · rw [hhl, Bool.true_or] at hov
        rw [hhl] at hx4 hx5
        subst hov
        have hS0 : W4.drew.rangeAt gA 0 (prL bv Y) ∧ W4.drew.cell? ⟨g15, 17, none⟩ = some (.bool true) := ⟨hrA, hx4⟩
        have hS9 : W5.rangeAt gA 0 (prL bv Y) ∧ W5.cell? ⟨g15, 17, none⟩ = some (.bool true) := ⟨hxA, hx5⟩
        refine wp_region_held_drew (S := (fun W => W.rangeAt gA 0 (prL bv Y) ∧ W.cell? ⟨g15, 17, none⟩ = some (.bool true))) (by kernel_rfl) (by first | exact hS0 | exact hS9) ?_
        intro hHeld
        (first | (refine tkA 0 ?_) | (refine tkB (v := undef) 0 (y := Or.inr ⟨by rfl, rfl⟩) (h := ?_)) | fail)
        (first | (refine tkB 1 (y := yieldsIf_load_mid (by rfl) 47 _ rfl gA 0 rfl (prL bv Y) _ (fun W s => s.1) hundP rfl hsP) (h := ?_)) | (refine tkB (v := undef) 1 (y := Or.inr ⟨by rfl, rfl⟩) (h := ?_)) | fail)
        (first | (refine tkA 2 ?_) | (refine tkB (v := undef) 2 (y := Or.inr ⟨by rfl, rfl⟩) (h := ?_)) | fail)
        (first | (refine tkA 3 ?_) | (refine tkB (v := undef) 3 (y := Or.inr ⟨by rfl, rfl⟩) (h := ?_)) | fail)
        (first | (refine tkB 4 (y := yields_cellI (by rfl) _ rfl ⟨g15, 17, none⟩ rfl (.bool true) (fun _ s => s.2) boolP_load) (h := ?_)) | (refine tkB (v := undef) 4 (y := Or.inr ⟨by rfl, rfl⟩) (h := ?_)) | fail)
        (first | (refine tkA 5 ?_) | (refine tkB (v := undef) 5 (y := Or.inr ⟨by rfl, rfl⟩) (h := ?_)) | fail)
        (first | (refine tkA 6 ?_) | (refine tkB (v := undef) 6 (y := Or.inr ⟨by rfl, rfl⟩) (h := ?_)) | fail)
        (first | (refine tkA 7 ?_) | (refine tkB (v := undef) 7 (y := Or.inr ⟨by rfl, rfl⟩) (h := ?_)) | fail)
        (first | (refine tkA 8 ?_) | (refine tkB (v := undef) 8 (y := Or.inr ⟨by rfl, rfl⟩) (h := ?_)) | fail)
        (first | (refine tkA 9 ?_) | (refine tkB (v := undef) 9 (y := Or.inr ⟨by rfl, rfl⟩) (h := ?_)) | fail)
        (first | (refine tkA 10 ?_) | (refine tkB (v := undef) 10 (y := Or.inr ⟨by rfl, rfl⟩) (h := ?_)) | fail)
        refine tkR (rs := [11]) ?_; refine tkC (fun K hK => ?_) AllReadyH.nil; refine step_store_rowC rfl _ _ rfl (w.heap.size + 2) rfl (prL bv Y) rfl hth5 hsP hoP hW5 ?_; (try simp only [Act.put, zsA, zsB, zsC]); refine hK.out _ _ (by first | exact hS0 | exact hS9) ?_; clear hHeld hK; intro hHeld; (try simp only [Act.put, zsA, zsB, zsC])
        (first | (refine tkA 12 ?_) | (refine tkB (v := undef) 12 (y := Or.inr ⟨by rfl, rfl⟩) (h := ?_)) | fail)
        (first | (refine tkA 13 ?_) | (refine tkB (v := undef) 13 (y := Or.inr ⟨by rfl, rfl⟩) (h := ?_)) | fail)
        (first | (refine tkA 14 ?_) | (refine tkB (v := undef) 14 (y := Or.inr ⟨by rfl, rfl⟩) (h := ?_)) | fail)
        refine wpAnyH_done (by kernel_rfl) ?_ _
        clear hHeld
        go_wp2_with fail
        refine bodyPost_ret (v := _) (results_run rfl _ _ (w.heap.size + 2) rfl _ _ _ _ rfl rfl rfl rfl (prL bv Y) hr5 hundP rfl hsP) rfl ?_
        exact hend
end Go.Proofs.YtidihdiffiffmaaGreatDoor
namespace Go.Proofs.YtidihdiffiffmaaGreatDoor
open Go.RowKit
set_option maxRecDepth 8000
set_option linter.unusedSimpArgs false
set_option linter.unusedVariables false
structure One (b : Nat) (g : Option Nat) (V W : World) : Prop where
  os : W.os = V.os
  tape : W.tape = V.tape
  output : W.output = V.output
  size : V.heap.size ≤ W.heap.size
  block : ∀ j, j < V.heap.size → j ≠ b → g ≠ some j → W.heap[j]? = V.heap[j]?
theorem One.of {b : Nat} {g : Option Nat} {V W : World} (h : Below V.heap.size V W) : One b g V W := ⟨h.os, h.tape, h.output, h.size, fun j hj _ _ => h.block j hj⟩
theorem One.trans {b : Nat} {g : Option Nat} {U V W : World} (h : One b g U V) (k : One b g V W) : One b g U W := ⟨k.os.trans h.os, k.tape.trans h.tape, k.output.trans h.output, Nat.le_trans h.size k.size, fun j hj hn hg => (k.block j (Nat.lt_of_lt_of_le hj h.size) hn hg).trans (h.block j hj hn hg)⟩
theorem One.cells {b : Nat} {g : Option Nat} {V W : World} (h : One b g V W) (o : Nat) (us : List Value) : One b g V (W.setCells b o us) := by
  have k := Below.cells (B := 0) (b := b) (Nat.zero_le _) us o (Below.refl 0 W)
  exact ⟨k.os.trans h.os, k.tape.trans h.tape, k.output.trans h.output, Nat.le_trans h.size k.size, fun j hj hn hg => (heap_setCells_other hn us o W).trans (h.block j hj hn hg)⟩
theorem One.drew {b : Nat} {g : Option Nat} {V W : World} (h : One b g V W) : One b g V W.drew := ⟨h.os, h.tape, h.output, h.size, h.block⟩
theorem One.below {b B : Nat} {g : Option Nat} {w V W : World} (h : Below B w V) (k : One b g V W) (hb : B ≤ b) (hV : B ≤ w.heap.size) (hg : ∀ j, g = some j → B ≤ j) : Below B w W := ⟨k.os.trans h.os, k.tape.trans h.tape, k.output.trans h.output, Nat.le_trans h.size k.size, fun j hj => (k.block j (by have := h.size; omega) (by omega) (fun q => by have := hg j q; omega)).trans (h.block j hj)⟩
def Sty (b : Nat) (g : Option Nat) (V : World) (P : World → Prop) : Prop := ∀ W, One b g V W → P W
theorem Sty.then {b : Nat} {g : Option Nat} {V W : World} {P : World → Prop} (h : Sty b g V P) (k : One b g V W) : Sty b g W P := fun X hX => h X (k.trans hX)
theorem Sty.now {b : Nat} {g : Option Nat} {V : World} {P : World → Prop} (h : Sty b g V P) : P V := h V (One.of (Below.refl _ _))
theorem Sty.and {b : Nat} {g : Option Nat} {V : World} {P Q : World → Prop} (h : Sty b g V P) (k : Sty b g V Q) : Sty b g V (fun W => P W ∧ Q W) := fun X hX => ⟨h X hX, k X hX⟩
theorem Sty.grewG {b : Nat} {V W : World} {v v' : Value} {P : World → Prop} (h : Sty b v.ownBlock V P) (k : Grew V v W v') : Sty b v'.ownBlock W P := fun X hX => by
  refine h X ⟨hX.os.trans k.by_.os, hX.tape.trans k.by_.tape, hX.output.trans k.by_.output, Nat.le_trans k.by_.size hX.size, fun j hj hn hg => ?_⟩
  refine (hX.block j (Nat.lt_of_lt_of_le hj k.by_.size) hn (fun q => ?_)).trans (k.by_.block j hj (fun q => hg q.symm))
  rcases k.at_ with e | e
  · exact hg (by rw [← e]; exact q)
  · have := e j q
    omega
theorem Sty.low {b B : Nat} {g : Option Nat} {V : World} {P : World → Prop} (h : ∀ W, Below B V W → P W) (hB : B ≤ V.heap.size) (hb : B ≤ b) (hg : ∀ j, g = some j → B ≤ j) : Sty b g V P := fun W k => h W (One.below (Below.refl _ _) k hb hB hg)
theorem Sty.own {α : Type} {e : TypeId} {sz b base : Nat} {f : α → List Value} {g : Option Nat} {V : World} {v : Value} {l : List α} (h : OwnR e sz f V base v l) (hb : b < base) (hg : ∀ j, g = some j → v.ownBlock ≠ some j) : Sty b g V (fun W => OwnR e sz f W base v l) := fun W k => h.keep fun j hj => k.block j (h.lt hj).2 (by have := (h.lt hj).1; omega) (fun q => hg j q hj)
theorem Sty.blk {b q : Nat} {g : Option Nat} {V : World} {cs : List Value} (h : BlkL q cs V) (hb : q ≠ b) (hg : g ≠ some q) : Sty b g V (BlkL q cs) := fun W k => ⟨h.1.same (k.block q h.2 hb hg), Nat.lt_of_lt_of_le h.2 k.size⟩
theorem addO_block (y : Addr) (m : Nat) : (y.add m).block = y.block := by
  unfold Addr.add
  split <;> rfl
theorem RowAt.keepO {α : Type} {sz : Nat} {f : α → List Value} {w w' : World} {a : Option Addr} {l : List α} (h : RowAt sz f w a l) (hb : ∀ y, a = some y → w'.heap[y.block]? = w.heap[y.block]?) : RowAt sz f w' a l := fun j x hx => by
  obtain ⟨y, hy, hc⟩ := h j x hx
  refine ⟨y, hy, fun i hi => ?_⟩
  rw [← hc i hi]
  exact World.cell?_of_block (by rw [addO_block]; exact hb y hy)
theorem rowN_own {W : World} {B n b0 : Nat} {l : List PN} (hr : RowAt 16 PN.cs W (some ⟨B, 0, none⟩) l) (ho : OwnX W b0 l) : RowN W (some ⟨B, 0, none⟩) l := ⟨hr, fun x hx => ⟨by
    obtain ⟨a1, c1, h1, -, -, h2⟩ := (ho.acl x hx).slice gr_okT.len
    unfold PN.av at h1
    injection h1 with q1 q2 q3
    rw [q1]
    exact row_grs h2, by
    obtain ⟨a1, c1, h1, -, -, h2⟩ := (ho.wds x hx).slice wd_okC.len
    unfold PN.wv at h1
    injection h1 with q1 q2 q3
    rw [q1]
    exact row_wrds h2⟩⟩
theorem Sty.nodes {b B : Nat} {g : Option Nat} {V : World} {l : List PN} (hr : RowN V (some ⟨B, 0, none⟩) l) (ho : OwnX V (B + 1) l) (hB : B < V.heap.size) (hb : b < B) (hg : ∀ j, g = some j → j < B) : Sty b g V (fun W => RowN W (some ⟨B, 0, none⟩) l) := fun W k => by
  have hk : ∀ j, B ≤ j → j < V.heap.size → W.heap[j]? = V.heap[j]? := fun j h1 h2 => k.block j h2 (by omega) (fun q => by have := hg j q; omega)
  refine rowN_own (n := 0) (RowAt.keepO hr.r fun y hy => ?_) (ho.keep fun j h1 h2 => hk j (by omega) h2)
  obtain rfl := Option.some.inj hy
  exact hk B (Nat.le_refl _) hB
theorem rowN_lt {W : World} {B : Nat} {l : List PN} (h : RowN W (some ⟨B, 0, none⟩) l) (hl : 0 < l.length) : B < W.heap.size := by
  obtain ⟨y, hy, hc⟩ := h.r 0 l[0] (List.getElem?_eq_getElem hl)
  obtain rfl := Option.some.inj hy
  have h1 := hc 0 (by decide)
  have h2 : (PN.cs l[0])[0]? = some (.string (l[0]).n.path) := rfl
  rw [h2] at h1
  exact World.block_lt_of_cell? W _ h1
end Go.Proofs.YtidihdiffiffmaaGreatDoor
namespace Go.Proofs.YtidihdiffiffmaaGreatDoor
open Go.RowKit
set_option maxRecDepth 8000
set_option linter.unusedSimpArgs false
set_option linter.unusedVariables false
theorem RowAt.drop1 {α : Type} {f : α → List Value} {W : World} {y : Addr} {l : List α} (h : RowAt 1 f W (some y) l) : RowAt 1 f W (some (y.add 1)) (l.drop 1) := fun j x hx => by
  rw [List.getElem?_drop] at hx
  obtain ⟨y', hy', hc⟩ := h (1 + j) x hx
  obtain rfl := Option.some.inj hy'
  refine ⟨_, rfl, fun i hi => ?_⟩
  rw [Addr.add_add, ← hc i hi]
  congr 2
  omega
theorem dirS0 : dirS 0 = ⟨#[47, 108, 48]⟩ := by decide +kernel
theorem dirS1 : dirS 1 = ⟨#[47, 108, 49]⟩ := by decide +kernel
set_option maxRecDepth 8000 in
set_option maxHeartbeats 4000000 in
theorem pmade_any (ta : Option Addr) (ct : Nat) (ts : List Lab) (ka : Option Addr) (kc : Nat) (ks : List PM) (pa : Option Addr) (pc : Nat) (ps : List PPg) (ma : Option Addr) (mc : Nat) (ms : List Int) (ra : Option Addr) (rc : Nat) (rs : List Rg) (hfit : FitM (ks.map (·.m))) (hpc : ps.length ≤ pc) (hpl : (ps.length : Int) ≤ 9223372036854775807) (w : World) (hlr : RowAt 4 lrow w ta ts) (hmr : RowM w ka ks) (hps : RowAt 1 pgcl w pa ps) (hpA : ∀ x ∈ ps, x.At w) (hms : RowAt 1 icell w ma ms) (hrsR : RowAt 4 rgcl w ra rs) :
    Calls Tryz.prog 10 #[.slice ta ts.length ct, .slice ka ks.length kc, .slice pa ps.length pc, .slice ma ms.length mc, .slice ra rs.length rc] w (PutR (madeN ts (ks.map (·.m)) (ps.map (·.is)) ms rs) w) := by
  have kg := growB_any ta ct ts ka kc ks w hlr hmr
  have kp := fun (a : Option Addr) cap (l : List PN) hl (W : World) h1 h2 h3 h4 h5 => pput_any 0 (by decide) a cap l pa pc ps ma mc ms ra rc rs hl W h1 h2 h3 h4 h5
  have kp1 := fun (a : Option Addr) cap (l : List PN) (y : Addr) hl (W : World) h1 h2 h3 h4 h5 => pput_any 1 (by decide) a cap l (some (y.add 1)) (pc - 1) (ps.drop 1) ma mc ms ra rc rs hl W h1 h2 h3 h4 h5
  rw [dirS0] at kp
  rw [dirS1] at kp1
  have hgood := grow_good ts hfit
  obtain ⟨R, hR⟩ : ∃ R, madeN ts (ks.map (·.m)) (ps.map (·.is)) ms rs = R := ⟨_, rfl⟩
  rw [hR]
  unfold madeN at hR
  rw [List.length_map] at hR
  replace hR : Aside _ := hR
  obtain ⟨nt, hnt⟩ : ∃ n, ts.length = n := ⟨_, rfl⟩
  obtain ⟨nk, hnk⟩ : ∃ n, ks.length = n := ⟨_, rfl⟩
  obtain ⟨np, hnp⟩ : ∃ n, ps.length = n := ⟨_, rfl⟩
  obtain ⟨nm, hnm⟩ : ∃ n, ms.length = n := ⟨_, rfl⟩
  obtain ⟨nr, hnr⟩ : ∃ n, rs.length = n := ⟨_, rfl⟩
  have hd1 : (ps.drop 1).length = np - 1 := by rw [List.length_drop, hnp]
  rw [hnt, hnk] at kg
  rw [hnp, hnm, hnr] at kp
  rw [hd1, hnm, hnr] at kp1
  rw [hnt, hnk, hnp, hnm, hnr]
  rw [hnp] at hpc hpl
  replace hnp : Aside (ps.length = np) := hnp
  clear hnt hnk hnm hnr hd1
  go_enter Tryz.func10, Tryz.ntmps10
  go_wp2_with fail
  refine kg.mono ?_
  rintro e W1 ⟨v, l, rfl, ho, hat, hnm, hb1, -⟩
  obtain ⟨a, c, rfl, -, -, hr⟩ := ho.slice pn_len
  have hl19 : l.length ≤ 19 := by
    have h1 := hgood.2.2
    rw [← hnm] at h1
    simpa [namesP] using h1
  have hrow : RowN W1 a l := ⟨hr, hat⟩
  have kp2 := kp a c l (by omega) W1 hrow (hps.below pg_len1 hb1) (fun x hx => ⟨(hpA x hx).1.below in_okW.len hb1, (hpA x hx).2⟩) (hms.below icell_len hb1) (hrsR.below rg_len hb1)
  clear kp kg ho hat hr hrow
  go_wp2_with fail
  refine kp2.mono ?_
  rintro e W2 ⟨l2, a2, c2, rfl, hrow2, hn2, hb2⟩
  have hB2 := Below.then hb1 hb2
  have hl2 : l2.length ≤ 24 := by
    have h1 := (putD_good (by omega : 0 < 2) hgood.1 hgood.2.1 (ps.map (·.is)) ms rs).2.2
    rw [← hnm, ← hn2] at h1
    have h2 : (namesP l2).length = l2.length := by simp [namesP]
    have h3 : (namesP l).length = l.length := by simp [namesP]
    omega
  clear kp2 hb1 hb2
  by_cases hgt : 2 < np
  · have hR1 := hR.out
    rw [if_pos (by rw [hnp.out]; exact hgt)] at hR1
    obtain ⟨x, hx⟩ : ∃ x, ps[0]? = some x := ⟨_, List.getElem?_eq_getElem (by rw [hnp.out]; omega)⟩
    obtain ⟨y, rfl, -⟩ := hps 0 x hx
    have kq := kp1 a2 c2 l2 y (by omega) W2 hrow2 ((hps.below pg_len1 hB2).drop1) (fun x hx => ⟨(hpA x (List.mem_of_mem_drop hx)).1.below in_okW.len hB2, (hpA x (List.mem_of_mem_drop hx)).2⟩) (hms.below icell_len hB2) (hrsR.below rg_len hB2)
    have i1 : (2 : Int) < (np : Int) := by omega
    have i2 : ¬ (np : Int) < 1 := by omega
    have i3 : ¬ (pc : Int) < (np : Int) := by omega
    clear kp1 hR
    go_wp2_with fail
    refine kq.mono ?_
    rintro e W3 ⟨l3, a3, c3, rfl, hrow3, hn3, hb3⟩
    have hfin : namesP l3 = R := by
      rw [hn3, hn2, hnm, ← hR1]
      rw [List.map_drop]
    clear kq
    go_wp2_with fail
    go_ret
    exact ⟨l3, a3, c3, rfl, hrow3, hfin, Below.then hB2 hb3⟩
  · have hR1 := hR.out
    rw [if_neg (by rw [hnp.out]; exact hgt)] at hR1
    have i1 : ¬ (2 : Int) < (np : Int) := by omega
    have hfin : namesP l2 = R := by rw [hn2, hnm, ← hR1]
    clear kp1 hR
    go_wp2_with fail
    go_ret
    exact ⟨l2, a2, c2, rfl, hrow2, hfin, hB2⟩
end Go.Proofs.YtidihdiffiffmaaGreatDoor
namespace Go.Proofs.YtidihdiffiffmaaGreatDoor
open Go.RowKit
set_option maxRecDepth 8000
set_option linter.unusedSimpArgs false
set_option linter.unusedVariables false
theorem newC_ok : newC.Ok := by
  refine ⟨rfl, fun p hp => ?_, ⟨by decide, by decide⟩, ⟨by decide, by decide⟩, by decide, fun f hf => (by simp [newC] at hf)⟩
  simp [newC] at hp
  rcases hp with rfl | rfl | rfl | rfl <;> refine ⟨?_, ?_, ?_, ?_⟩ <;> decide
def newK (k : Nat) : Cp := ⟨0, 0, 4, 0, [⟨0, 0, 4⟩, ⟨1, 0, 4⟩, ⟨2, 0, 4⟩, ⟨3, 0, 4⟩].take k ++ [⟨0, 0, 0⟩, ⟨0, 0, 0⟩, ⟨0, 0, 0⟩, ⟨0, 0, 0⟩].drop k, [], false⟩
theorem newK_len {k : Nat} (h : k ≤ 4) : (newK k).ps.length = 4 := by simp only [newK, List.length_append, List.length_take, List.length_drop, List.length_cons, List.length_nil]; omega
theorem newK_step {k : Nat} (h : k < 4) : setM (stCs (newK k) nilS) (4 + k * 3) (ptr3 ⟨(k : Int), 0, 4⟩) = stCs (newK (k + 1)) nilS := by
  match k, h with
  | 0, _ => rfl
  | 1, _ => rfl
  | 2, _ => rfl
  | 3, _ => rfl
set_option maxRecDepth 8000 in
set_option maxHeartbeats 2000000 in
theorem cnew_any (w : World) : Calls Tryz.prog 30 #[] w fun e w' => e = .returned (.agg (stCs newC nilS).toArray) ∧ Below w.heap.size w w' := by
  have hundS := Tryz.underlying45
  have hszS : (Tryz.prog.info? 45).map (·.size) = some (stCs newC nilS).length := by kernel_rfl
  have hszP : (Tryz.prog.info? 41).map (·.size) = some 3 := by kernel_rfl
  have hr0 : StAt w.heap.size zeroC nilS (w.alloc (.cells zS 45)) := ⟨rfl, blkl_alloc w (stCs zeroC nilS).toArray 45⟩
  have hB0 := alloc_below w (.cells zS 45)
  have hsw : (w.alloc (.cells zS 45)).heap.size = w.heap.size + 1 := by simp
  obtain ⟨W1, hW1, hth1, hs1, hb1⟩ := new_st (w.alloc (.cells zS 45)) (newK 0) rfl nilS 45
  rw [hsw] at hW1 hth1 hs1
  have hr1 := hr0.keep hb1
  have hB1 := Below.then hB0 hb1
  have hone0 : ∀ u ∈ stCs (newK 0) nilS, u.oneCell' = true := st_one _ _ rfl
  have hbd : ∀ w : World, (Instr.build 45 #[(2, .int .i64 4)]).run Tryz.prog w = .ok (.agg (stCs (newK 0) nilS).toArray) w := fun w => by
    have h1 := Tryz.underlying45
    show _ = Result.ok (Value.agg #[.int .i64 0, .int .i64 0, .int .i64 4, .int .i64 0, .int .i64 0, .int .i64 0, .int .i64 0, .int .i64 0, .int .i64 0, .int .i64 0, .int .i64 0, .int .i64 0, .int .i64 0, .int .i64 0, .int .i64 0, .int .i64 0, .slice none 0 0, .bool false]) w
    go_simp
  have hszX : (Tryz.prog.info? 45).map (·.size) = some (stCs (newK 0) nilS).length := by kernel_rfl
  obtain ⟨X, hX⟩ : ∃ X, stCs (newK 0) nilS = X := ⟨_, rfl⟩
  simp only [hX] at hW1 hth1 hone0 hbd hszX
  clear hX hr0 hB0 hb1 hsw
  go_enter Tryz.func30, Tryz.ntmps30
  go_upto_region 2 with (first | (refine wpList_buildv rfl _ rfl #[(2, .int .i64 4)] (by simp [Act.eval]) (hbd _) ?_) | (refine wpList_store_row rfl _ _ rfl (w.heap.size + 1) rfl X rfl hth1 hszX hone0 hW1 ?_) | fail)
  clear hW1 hth1 hone0 hbd hszX
  go_wp2_with fail
  go_loopw [4] (fun t4 wr => ∃ k : Nat, k ≤ 4 ∧ t4 = .int .i64 (k : Int) ∧ StAt w.heap.size zeroC nilS wr ∧ StAt (w.heap.size + 1) (newK k) nilS wr ∧ Below w.heap.size w wr) (fun t4 _ => 4 - (Go.RowKit.intOf t4).toNat)
  case atStart => exact ⟨0, by omega, rfl, hr1, hs1, hB1⟩
  case round =>
  clear hr1 hs1 hB1
  obtain ⟨k, hk, rfl, hr, hs, hB⟩ := hrel
  by_cases hk4 : k < 4
  · have i1 : (k : Int) < 4 := by omega
    have i2 : ¬ (k : Int) < 0 := by omega
    obtain ⟨W2, hW2, hth2, hs2, hk2, hf2⟩ := hs.putPtr hk4 ⟨(k : Int), 0, 4⟩ (newK_len (by omega)) (newK_step hk4)
    have hB2 := hk2 _ _ (Nat.le_succ _) hB
    have hr2 : StAt w.heap.size zeroC nilS W2 := ⟨rfl, hr.blk.1.same (hf2 _ (by omega)), Nat.lt_of_lt_of_le hr.blk.2 (hk2 0 wr (Nat.zero_le _) (Below.refl _ _)).size⟩
    clear hr hs hB hk2 hf2
    go_wp2_with (first | (refine wpList_store_part rfl _ _ rfl (w.heap.size + 1) (4 + k * 3) rfl (ptr3 ⟨(k : Int), 0, 4⟩) rfl hth2 hszP (ptr3J_one _) hW2 ?_) | fail)
    exact ⟨⟨k + 1, by omega, by simp, hr2, hs2, hB2⟩, by simp [Go.RowKit.intOf]; omega⟩
  · obtain rfl : k = 4 := by omega
    have hs4 : StAt (w.heap.size + 1) newC nilS wr := hs
    obtain ⟨W3, hW3, hth3, hr3, hk3⟩ := put_st hr (d := newC) rfl nilS
    have hB3 := hk3 _ _ (Nat.le_refl _) hB
    have hrg := hs4.blk.range
    have hr3r := hr3.blk.range
    have hone : ∀ u ∈ stCs newC nilS, u.oneCell' = true := st_one _ _ rfl
    obtain ⟨Y, hY⟩ : ∃ Y, stCs newC nilS = Y := ⟨_, rfl⟩
    rw [hY] at hW3 hth3 hrg hr3r hone hszS
    replace hY : Aside (stCs newC nilS = Y) := hY
    clear hr hs hB hs4 hr3 hk3
    go_wp2_with (first | (refine wpList_load_row rfl _ rfl (w.heap.size + 1) rfl Y hrg hundS rfl hszS ?_) | (refine wpList_store_row rfl _ _ rfl w.heap.size rfl Y rfl hth3 hszS hone hW3 ?_) | fail)
    refine bodyPost_ret (v := .agg Y.toArray) (results_row1 rfl _ _ w.heap.size rfl Y hr3r hundS rfl hszS) rfl ?_
    exact ⟨by rw [hY.out], hB3⟩
end Go.Proofs.YtidihdiffiffmaaGreatDoor
namespace Go.Proofs.YtidihdiffiffmaaGreatDoor
open Go.RowKit
set_option maxRecDepth 8000
set_option linter.unusedSimpArgs false
set_option linter.unusedVariables false
def bindE (L : List Nod) (u : ByteArray) (t : Lab) (p : ByteArray) (m : Int) : Int := if mayE L u t p m ≠ 0 then mayE L u t p m else if (gotN L p).dir = true then 3 else 0
def goE (L : List Nod) (u : ByteArray) (t : Lab) : Int → List ByteArray → Int
  | _, [] => 0
  | m, p :: r => if bindE L u t p m ≠ 0 then bindE L u t p m else goE L u t 1 r
def makeE (L : List Nod) (u : ByteArray) (t : Lab) (bs : List ByteArray) : Int := if bs.length < 1 ∨ 4 < bs.length then 1 else goE L u t 4 bs
def modeK (k : Nat) : Int := if k = 0 then 4 else 1
theorem goE_at {L : List Nod} {u : ByteArray} {t : Lab} {bs : List ByteArray} {k : Nat} {p : ByteArray} (h : bs[k]? = some p) : goE L u t (modeK k) (bs.drop k) = if bindE L u t p (modeK k) ≠ 0 then bindE L u t p (modeK k) else goE L u t (modeK (k + 1)) (bs.drop (k + 1)) := by
  have hl := (List.getElem?_eq_some_iff.1 h).1
  rw [List.drop_eq_getElem_cons hl, (List.getElem?_eq_some_iff.1 h).2, goE]
  rfl
def MakeP (bs : List ByteArray) (E : Int) (w : World) (e : Ending) (w' : World) : Prop := Below w.heap.size w w' ∧ (E ≠ 0 → e = .returned (.tuple #[.agg (prL nilS (stCs zeroC nilS)).toArray, .int .i64 E])) ∧ (E = 0 → ∃ bv, e = .returned (.tuple #[.agg (prL bv (stCs newC nilS)).toArray, .int .i64 0]) ∧ OwnR 9 1 scl w' w.heap.size bv bs)
set_option maxRecDepth 8000 in
set_option maxHeartbeats 4000000 in
theorem pmayb_any (a : Option Addr) (cap : Nat) (l : List PN) (u : ByteArray) (t : Lab) (p : ByteArray) (m : Int) (hF : FineL l) (hGt : GL t) (hp : p.size ≤ 1000) (w : World) (h : RowN w a l) (hV : MaxV w) :
    Calls Tryz.prog 28 #[.slice a l.length cap, .agg (sbL u t).toArray, .string p, .int .i64 m] w fun e w' => e = .returned (.int .i64 (bindE (namesP l) u t p m)) ∧ Below w.heap.size w w' := by
  have hundS := Tryz.underlying52
  have hszN : (Tryz.prog.info? 36).map (·.size) = some 16 := by kernel_rfl
  have hss : (Tryz.prog.info? 52).map (·.size) = some (sbL u t).length := by kernel_rfl
  have hb0 := blkl_alloc w (sbL u t).toArray 52
  have hB0 := alloc_below w (.cells (sbL u t).toArray 52)
  have kb := mmay_any a cap l u t p m hF hGt hp _ (h.below hB0) (hV.below hB0)
  have hrs := hb0.range
  unfold bindE
  obtain ⟨E, hE⟩ : ∃ E, mayE (namesP l) u t p m = E := ⟨_, rfl⟩
  rw [hE] at kb ⊢
  obtain ⟨n, hn⟩ : ∃ n, l.length = n := ⟨_, rfl⟩
  rw [hn] at kb ⊢
  replace hrs : (w.alloc (.cells (sbL u t).toArray 52)).rangeAt w.heap.size 0 (sbL u t) := hrs
  obtain ⟨r, hr⟩ : ∃ r, (if E ≠ 0 then E else if (gotN (namesP l) p).dir = true then 3 else 0) = r := ⟨_, rfl⟩
  rw [hr]
  replace hr : Aside _ := hr
  clear hE hn hb0
  go_enter Tryz.func28, Tryz.ntmps28
  go_upto_region 1 with fail
  generalize w.alloc (.cells (sbL u t).toArray 52) = W0 at *
  go_wp2_with (first | (refine wpList_load_row rfl _ rfl w.heap.size rfl (sbL u t) hrs hundS rfl hss ?_) | fail)
  refine kb.mono ?_
  rintro e W1 ⟨f, rfl, hfn, -, hb1, -⟩
  obtain ⟨W2, hW2, hth2, hbf, hB2⟩ := put_new W1 #[.string ⟨#[]⟩, .bool false, .int .i64 0, .int .i64 0, .int .i64 0, .int .i64 0, .slice none 0 0, .int .i64 0, .int .i64 0, .int .i64 0, .int .i64 0, .slice none 0 0, .int .i64 0, .int .i64 0, .int .i64 0, .int .i64 0] 36 f.cs (by rw [pn_len]; rfl) (by rw [pn_len]; decide)
  have hB3 := Below.then (Below.then hB0 hb1) hB2
  have hszT : (Tryz.prog.info? 36).map (·.size) = some f.cs.length := by rw [pn_len]; exact hszN
  have hone : ∀ v ∈ f.cs, v.oneCell' = true := pn_one f
  have hdir : W2.cell? ⟨W1.heap.size, 1, none⟩ = some (.bool f.n.dir) := (hbf.1 1 _ rfl).1
  clear kb hrs hB0 hb1 hB2 hbf
  go_upto_region 2 with (first | (refine wpList_store_row rfl _ _ rfl W1.heap.size rfl f.cs rfl hth2 hszT hone hW2 ?_) | fail)
  clear hth2 hW2 hszT hone
  by_cases h0 : E = 0
  · subst h0
    have hd : f.n.dir = (gotN (namesP l) p).dir := by
      rw [hfn]
      unfold toldN gotN
      rw [if_pos rfl]
    have hr2 := hr.out
    rw [if_neg (by decide), ← hd] at hr2
    clear hfn hd hr
    cases hdd : f.n.dir
    · rw [hdd] at hdir hr2
      rw [if_neg (by decide)] at hr2
      subst hr2
      go_wp2_with fail
      go_ret
      exact ⟨rfl, hB3⟩
    · rw [hdd] at hdir hr2
      rw [if_pos rfl] at hr2
      subst hr2
      go_wp2_with fail
      go_ret
      exact ⟨rfl, hB3⟩
  · have hr2 := hr.out
    rw [if_pos h0] at hr2
    have hq : (E == 0) = false := by simpa using h0
    subst hr2
    clear hfn h0 hr
    go_wp2_with fail
    go_ret
    exact ⟨rfl, hB3⟩
theorem p_build (va : Option Addr) (vn vc : Nat) (w : World) : (Instr.build 47 #[(0, .slice va vn vc), (1, .agg (stCs newC nilS).toArray)]).run Tryz.prog w = .ok (.agg (prL (.slice va vn vc) (stCs newC nilS)).toArray) w := by
  have h1 := Tryz.underlying47
  have h2 := Tryz.underlying45
  unfold stCs prL
  simp only [newC]
  go_simp
theorem p_build0 (w : World) : (Instr.build 47 #[]).run Tryz.prog w = .ok (.agg (prL nilS (stCs zeroC nilS)).toArray) w := by
  have h1 := Tryz.underlying47
  show _ = Result.ok (Value.agg #[.slice none 0 0, .int .i64 0, .int .i64 0, .int .i64 0, .int .i64 0, .int .i64 0, .int .i64 0, .int .i64 0, .int .i64 0, .int .i64 0, .int .i64 0, .int .i64 0, .int .i64 0, .int .i64 0, .int .i64 0, .int .i64 0, .int .i64 0, .slice none 0 0, .bool false]) w
  go_simp
set_option maxRecDepth 8000 in
set_option maxHeartbeats 4000000 in
theorem pmake_any (a : Option Addr) (cap : Nat) (l : List PN) (u : ByteArray) (t : Lab) (ba : Option Addr) (bc : Nat) (bs : List ByteArray) (hF : FineL l) (hGt : GL t) (hbs : bs.length ≤ 1000) (hps : ∀ p ∈ bs, p.size ≤ 1000) (w : World) (h : RowN w a l) (hRB : RowAt 1 scl w ba bs) (hV : MaxV w) :
    Calls Tryz.prog 12 #[.slice a l.length cap, .agg (sbL u t).toArray, .slice ba bs.length bc] w (MakeP bs (makeE (namesP l) u t bs) w) := by
  have hundS := Tryz.underlying52
  have hundP := Tryz.underlying47
  have hszP : (Tryz.prog.info? 47).map (·.size) = some 19 := by kernel_rfl
  have hss : (Tryz.prog.info? 52).map (·.size) = some (sbL u t).length := by kernel_rfl
  have f0 := blkl_alloc w (sbL u t).toArray 52
  have g0 := alloc_below w (.cells (sbL u t).toArray 52)
  have f1 := blkl_alloc (w.alloc (.cells (sbL u t).toArray 52)) (prL nilS (stCs zeroC nilS)).toArray 47
  have g1 := alloc_below (w.alloc (.cells (sbL u t).toArray 52)) (.cells (prL nilS (stCs zeroC nilS)).toArray 47)
  rw [World.size_alloc] at f1
  have kb := fun (W : World) p m hp r v => pmayb_any a cap l u t p m hF hGt hp W r v
  have kc := fun (W : World) r => pcpS_any ba bc bs W hbs r
  have kn := fun (W : World) => cnew_any W
  have hbd := p_build
  have hbd0 := p_build0
  have hb := stab_blk _ _ _ _ f0 g1
  have hB := Below.then g0 g1
  have hr : BlkL (w.heap.size + 1) (prL nilS (stCs zeroC nilS)) ((w.alloc (.cells (sbL u t).toArray 52)).alloc (.cells zPC 47)) := f1
  replace hb : BlkL w.heap.size (sbL u t) ((w.alloc (.cells (sbL u t).toArray 52)).alloc (.cells zPC 47)) := hb
  replace hB : Below w.heap.size w ((w.alloc (.cells (sbL u t).toArray 52)).alloc (.cells zPC 47)) := hB
  clear f0 f1 g0 g1
  unfold makeE
  obtain ⟨n, hn⟩ : ∃ n, l.length = n := ⟨_, rfl⟩
  obtain ⟨nb, hnb⟩ : ∃ nb, bs.length = nb := ⟨_, rfl⟩
  rw [hn] at kb ⊢
  rw [hnb] at hbs kc ⊢
  replace hn : Aside (l.length = n) := hn
  replace hnb : Aside (bs.length = nb) := hnb
  have hZP : ∀ W : World, BlkL (w.heap.size + 1) (prL nilS (stCs zeroC nilS)) W → ∃ W', W.setCells (w.heap.size + 1) 0 (prL nilS (stCs zeroC nilS)) = W' ∧ W.there (w.heap.size + 1) 0 (prL nilS (stCs zeroC nilS)).length ∧ W'.rangeAt (w.heap.size + 1) 0 (prL nilS (stCs zeroC nilS)) ∧ (Below w.heap.size w W → Below w.heap.size w W') := fun W q => by
    obtain ⟨W', q1, q2, q3, q4⟩ := put_any q (ds := prL nilS (stCs zeroC nilS)) rfl (by decide)
    exact ⟨W', q1, q2, q3.range, fun r => q4 _ _ (by omega) r⟩
  have hszZ : (Tryz.prog.info? 47).map (·.size) = some (prL nilS (stCs zeroC nilS)).length := hszP
  have honeZ : ∀ y ∈ prL nilS (stCs zeroC nilS), y.oneCell' = true := fun y hy => (List.mem_cons.1 hy).elim (fun q => by rw [q]; rfl) (fun q => st_one _ _ rfl y q)
  by_cases hbad : nb < 1 ∨ 4 < nb
  · rw [if_pos hbad]
    obtain ⟨W9, hW9, hth9, hr9, hk9⟩ := hZP _ hr
    have hB9 := hk9 hB
    obtain ⟨Z, hZ⟩ : ∃ Z, prL nilS (stCs zeroC nilS) = Z := ⟨_, rfl⟩
    have hfin : ∀ W, Below w.heap.size w W → MakeP bs 1 w (.returned (.tuple #[.agg Z.toArray, .int .i64 1])) W := fun W q => ⟨q, fun _ => by rw [hZ], fun q => absurd q (by decide)⟩
    rw [hZ] at hW9 hth9 hr9 hszZ honeZ hbd0
    clear hZ hZP hk9
    go_enter Tryz.func12, Tryz.ntmps12
    go_upto_region 1 with fail
    generalize (w.alloc (.cells (sbL u t).toArray 52)).alloc (.cells zPC 47) = W0 at *
    by_cases h1 : nb < 1
    · have i1 : (nb : Int) < 1 := by omega
      go_wp2_with (first | (refine wpList_buildv rfl _ rfl #[] (by simp [Act.eval]) (hbd0 _) ?_) | (refine wpList_store_row rfl _ _ rfl (w.heap.size + 1) rfl Z rfl hth9 hszZ honeZ hW9 ?_) | fail)
      refine bodyPost_ret (v := .tuple #[.agg Z.toArray, .int .i64 1]) (results_row2 rfl _ _ (w.heap.size + 1) rfl (.int .i64 1) rfl Z hr9 hundP rfl hszZ) rfl ?_
      exact hfin _ hB9
    · have i1 : ¬ (nb : Int) < 1 := by omega
      have i2 : (4 : Int) < (nb : Int) := by omega
      go_wp2_with (first | (refine wpList_buildv rfl _ rfl #[] (by simp [Act.eval]) (hbd0 _) ?_) | (refine wpList_store_row rfl _ _ rfl (w.heap.size + 1) rfl Z rfl hth9 hszZ honeZ hW9 ?_) | fail)
      refine bodyPost_ret (v := .tuple #[.agg Z.toArray, .int .i64 1]) (results_row2 rfl _ _ (w.heap.size + 1) rfl (.int .i64 1) rfl Z hr9 hundP rfl hszZ) rfl ?_
      exact hfin _ hB9
  rw [if_neg hbad]
  have i1 : ¬ (nb : Int) < 1 := by omega
  have i2 : ¬ (4 : Int) < (nb : Int) := by omega
  obtain ⟨E, hE⟩ : ∃ E, goE (namesP l) u t 4 bs = E := ⟨_, rfl⟩
  rw [hE]
  have hE0 : Aside (goE (namesP l) u t (modeK 0) (bs.drop 0) = E) := hE
  clear hE
  go_enter Tryz.func12, Tryz.ntmps12
  go_upto_region 1 with fail
  generalize (w.alloc (.cells (sbL u t).toArray 52)).alloc (.cells zPC 47) = W0 at *
  go_upto_region 4 with fail
  go_wp2_with fail
  go_loopw [8, 23] (fun t8 t23 wr => ∃ k : Nat, k ≤ nb ∧ t23 = .int .i64 (k : Int) ∧ t8 = .int .i64 (modeK k) ∧ Aside (goE (namesP l) u t (modeK k) (bs.drop k) = E) ∧ BlkL w.heap.size (sbL u t) wr ∧ BlkL (w.heap.size + 1) (prL nilS (stCs zeroC nilS)) wr ∧ Below w.heap.size w wr) (fun _ t23 _ => nb - (Go.RowKit.intOf t23).toNat)
  case atStart => exact ⟨0, by omega, rfl, rfl, hE0, hb, hr, hB⟩
  case round =>
    clear hb hr hB hE0
    obtain ⟨k, hk, rfl, rfl, hE, hb, hr, hB⟩ := hrel
    by_cases hlt : k < nb
    · obtain ⟨p, hp⟩ : ∃ p, bs[k]? = some p := ⟨_, List.getElem?_eq_getElem (by rw [hnb.out]; exact hlt)⟩
      have hpz := hps p (List.mem_of_getElem? hp)
      obtain ⟨y, rfl, hyc⟩ := (hRB.below scl_ok.len hB) k p hp
      have hy0 : wr.cell? (y.add k) = some (.string p) := by
        have := hyc 0 (by decide)
        rw [Nat.mul_one, Nat.add_zero] at this
        exact this
      have hE1 := hE.out
      rw [goE_at hp] at hE1
      have kq := kb wr p (modeK k) hpz (h.below hB) (hV.below hB)
      obtain ⟨M, hM⟩ : ∃ M, modeK k = M := ⟨_, rfl⟩
      rw [hM] at kq hE1 ⊢
      obtain ⟨E1, hE2⟩ : ∃ E1, bindE (namesP l) u t p M = E1 := ⟨_, rfl⟩
      rw [hE2] at kq hE1
      have hrs := hb.range
      clear hyc hM hE2 hE
      go_upto_region 7 with fail
      clear hy0
      go_wp2_with (first | (refine wpList_load_row rfl _ rfl w.heap.size rfl (sbL u t) hrs hundS rfl hss ?_) | fail)
      refine kq.mono ?_
      rintro e W1 ⟨rfl, hb1⟩
      have hb2 := stab_blk _ _ _ _ hb hb1
      have hr2 := stab_blk _ _ _ _ hr hb1
      have hB2 := Below.then hB hb1
      clear hb hr hB hb1 kq hrs
      by_cases h0 : E1 = 0
      · subst h0
        rw [if_neg (by decide)] at hE1
        replace hE1 : Aside _ := hE1
        go_wp2_with fail
        exact ⟨⟨k + 1, by omega, by simp, by rfl, hE1, hb2, hr2, hB2⟩, by simp [Go.RowKit.intOf]; omega⟩
      · rw [if_pos h0] at hE1
        subst hE1
        have hq : (E1 != 0) = true := by simpa using h0
        obtain ⟨W9, hW9, hth9, hr9, hk9⟩ := hZP _ hr2
        have hB9 := hk9 hB2
        obtain ⟨Z, hZ⟩ : ∃ Z, prL nilS (stCs zeroC nilS) = Z := ⟨_, rfl⟩
        have hfin : ∀ W, Below w.heap.size w W → MakeP bs E1 w (.returned (.tuple #[.agg Z.toArray, .int .i64 E1])) W := fun W q => ⟨q, fun _ => by rw [hZ], fun q => absurd q h0⟩
        rw [hZ] at hW9 hth9 hr9 hszZ honeZ hbd0
        clear hZ hZP hk9 hb2 hr2 hB2
        go_wp2_with (first | (refine wpList_buildv rfl _ rfl #[] (by simp [Act.eval]) (hbd0 _) ?_) | (refine wpList_store_row rfl _ _ rfl (w.heap.size + 1) rfl Z rfl hth9 hszZ honeZ hW9 ?_) | fail)
        refine bodyPost_ret (v := .tuple #[.agg Z.toArray, .int .i64 E1]) (results_row2 rfl _ _ (w.heap.size + 1) rfl (.int .i64 E1) rfl Z hr9 hundP rfl hszZ) rfl ?_
        exact hfin _ hB9
    · obtain rfl : k = nb := by omega
      have hE1 := hE.out
      rw [List.drop_eq_nil_of_le (by rw [hnb.out]; exact Nat.le_refl _), goE] at hE1
      subst hE1
      have kcw := kc wr (hRB.below scl_ok.len hB)
      clear hE hZP
      go_upto_region 12 with fail
      go_wp2_with fail
      refine kcw.mono ?_
      rintro e W1 ⟨rfl, ho1, hb1⟩
      go_wp2_with fail
      refine (kn W1).mono ?_
      rintro e W2 ⟨rfl, hb2⟩
      have ho2 := ho1.below hb2
      have hr2 := stab_blk _ _ _ _ (stab_blk _ _ _ _ hr hb1) hb2
      have hB2 := Below.then (Below.then hB hb1) hb2
      have hwr : w.heap.size + 1 < wr.heap.size := hr.2
      obtain ⟨Y, hY⟩ : ∃ Y, prL (.slice (some ⟨wr.heap.size, 0, none⟩) k k) (stCs newC nilS) = Y := ⟨_, rfl⟩
      have hYl : Y.length = 19 := by rw [← hY]; rfl
      have hbY := hbd (some ⟨wr.heap.size, 0, none⟩) k k W2
      have hYo : ∀ y ∈ Y, y.oneCell' = true := by
        rw [← hY]
        exact fun y hy => (List.mem_cons.1 hy).elim (fun q => by rw [q]; rfl) (fun q => st_one _ _ rfl y q)
      obtain ⟨W9, hW9, hth9, hk9, hb9⟩ := put_any hr2 (ds := Y) (by rw [hYl]; rfl) (by rw [hYl]; decide)
      have hszY : (Tryz.prog.info? 47).map (·.size) = some Y.length := by rw [hYl]; exact hszP
      have hr9 := hk9.range
      have hB9 := hb9 _ _ (by omega) hB2
      have ho9 : OwnR 9 1 scl W9 w.heap.size (.slice (some ⟨wr.heap.size, 0, none⟩) k k) bs := by rw [← hW9]; exact (ho2.setAll (fun q => by have := (ho2.lt q).1; omega) _).lower (by omega)
      have hfin : MakeP bs 0 w (.returned (.tuple #[.agg Y.toArray, .int .i64 0])) W9 := ⟨hB9, fun q => absurd rfl q, fun _ => ⟨_, by rw [← hY], ho9⟩⟩
      rw [hY] at hbY
      clear hY ho1 ho2 hb1 hb2 hr hr2 hB hB2 hb hk9 hb9 hB9 ho9 kcw
      go_wp2_with (first | (refine wpList_buildv rfl _ rfl #[(0, .slice (some ⟨wr.heap.size, 0, none⟩) k k), (1, .agg (stCs newC nilS).toArray)] (by simp [Act.eval]) hbY ?_) | (refine wpList_store_row rfl _ _ rfl (w.heap.size + 1) rfl Y rfl hth9 hszY hYo hW9 ?_) | fail)
      refine bodyPost_ret (v := .tuple #[.agg Y.toArray, .int .i64 0]) (results_row2 rfl _ _ (w.heap.size + 1) rfl (.int .i64 0) rfl Y hr9 hundP rfl hszY) rfl ?_
      exact hfin
end Go.Proofs.YtidihdiffiffmaaGreatDoor
namespace Go.Proofs.YtidihdiffiffmaaGreatDoor
open Go.RowKit
set_option maxRecDepth 8000
set_option linter.unusedSimpArgs false
set_option linter.unusedVariables false
def kpS : ByteArray := ⟨#[47, 108, 48, 47, 112, 48]⟩
def kaS : ByteArray := ⟨#[97]⟩
def kpL0 : List Nod := firstN [bottomL]
def kpL1 : List Nod := putD kpL0 0 [[]] [] []
def kpN0 : Nod := segX kpS bottomL 7 ⟨4, 4, 4, 0⟩ []
def kpN1 : Nod := { kpN0 with words := [0] }
def kpL2 : List Nod := putN kpL1 kpN1
theorem kp_L0 : kpL0 = [rootN, dirN 0 bottomL] := by kernel_rfl
theorem kp_find : findN kpL1 kpS = some kpN0 := by kernel_rfl
theorem kp_L2 : kpL2 = putN kpL0 kpN1 := by kernel_rfl
theorem kp_tree0 : Tree kpL0 := first_tree (fun t ht => by rw [List.mem_singleton] at ht; rw [ht]; exact bottom_GL) (by decide)
theorem kp_ok : nodC kpN1 = 0 := by decide +kernel
theorem kp_new : ∀ x ∈ kpL0, x.path ≠ kpN1.path := by decide +kernel
theorem kp_inv : InvP kpL2 := by
  rw [kp_L2]
  refine ⟨kp_tree0.put kp_ok (by decide +kernel) kp_new (d := dirN 0 bottomL) (by rw [kp_L0]; simp) (by decide +kernel) rfl (by decide +kernel) (fun _ => rfl), fun x hx w hw => ?_⟩
  rcases put_mem.1 hx with rfl | ⟨hx, _⟩
  · obtain rfl : w = 0 := by simpa [kpN1] using hw
    decide
  · rw [kp_L0] at hx
    simp at hx
    rcases hx with rfl | rfl
    · cases hw
    · cases hw
theorem kp_make : makeE kpL2 kaS bottomL [kpS] = 0 := by decide +kernel
def kpC : Cp := (stepC newC (segsP kpL2 kaS bottomL [kpS])).t
theorem kp_run : runP kaS bottomL [kpS] 5 kpL2 newC = ⟨kpL2, kpC, [], true, 0⟩ := by
  have h0 : (stepC newC (segsP kpL2 kaS bottomL [kpS])).e = 0 := by decide +kernel
  have h1 : (stepC newC (segsP kpL2 kaS bottomL [kpS])).t.hl = true := by decide +kernel
  have h2 : (stepC newC (segsP kpL2 kaS bottomL [kpS])).wr = none := by decide +kernel
  have h3 : (stepC newC (segsP kpL2 kaS bottomL [kpS])).told = false := by decide +kernel
  rw [runP, if_neg (by rw [h0]; decide), if_pos h1, h2]
  unfold toldO
  rw [h3]
  rfl
end Go.Proofs.YtidihdiffiffmaaGreatDoor
namespace Go.Proofs.YtidihdiffiffmaaGreatDoor
open Go.RowKit
set_option maxRecDepth 8000
set_option linter.unusedSimpArgs false
set_option linter.unusedVariables false
structure PrAt (b : Nat) (bv : Value) (c : Cp) (v : Value) (W : World) : Prop where
  ps : c.ps.length = 4
  blk : BlkL b (prL bv (stCs c v)) W
theorem PrAt.bnd {b : Nat} {bv : Value} {c : Cp} {v : Value} {W : World} (h : PrAt b bv c v W) : W.cell? ⟨b, 0, none⟩ = some bv := (h.blk.1 0 _ rfl).1
theorem PrAt.seg {b : Nat} {bv : Value} {c : Cp} {v : Value} {W : World} (h : PrAt b bv c v W) : W.cell? ⟨b, 1, none⟩ = some (.int .i64 c.seg) := (h.blk.1 1 _ rfl).1
theorem PrAt.off {b : Nat} {bv : Value} {c : Cp} {v : Value} {W : World} (h : PrAt b bv c v W) : W.cell? ⟨b, 2, none⟩ = some (.int .i64 c.off) := (h.blk.1 2 _ rfl).1
theorem PrAt.ring {b : Nat} {bv : Value} {c : Cp} {v : Value} {W : World} (h : PrAt b bv c v W) : W.cell? ⟨b, 3, none⟩ = some (.int .i64 c.ring) := (h.blk.1 3 _ rfl).1
theorem PrAt.a {b : Nat} {bv : Value} {c : Cp} {v : Value} {W : World} (h : PrAt b bv c v W) : W.cell? ⟨b, 4, none⟩ = some (.int .i64 c.a) := (h.blk.1 4 _ rfl).1
theorem PrAt.stk {b : Nat} {bv : Value} {c : Cp} {v : Value} {W : World} (h : PrAt b bv c v W) : W.cell? ⟨b, 17, none⟩ = some v := (h.blk.1 17 _ (show (stCs c v)[16]? = some v from st_stk h.ps)).1
theorem PrAt.hl {b : Nat} {bv : Value} {c : Cp} {v : Value} {W : World} (h : PrAt b bv c v W) : W.cell? ⟨b, 18, none⟩ = some (.bool c.hl) := (h.blk.1 18 _ (show (stCs c v)[17]? = some (.bool c.hl) from st_hl h.ps)).1
theorem PrAt.pts {b : Nat} {bv : Value} {c : Cp} {v : Value} {W : World} (h : PrAt b bv c v W) : W.rangeAt b 5 (c.ps.flatMap ptr3) := fun j u hu => by
  have hj : j < 12 := by have := (List.getElem?_eq_some_iff.1 hu).1; rw [flat_length ptr3_len, h.ps] at this; exact this
  refine (h.blk.1 (5 + j) u ?_).1
  show (bv :: stCs c v)[5 + j]? = some u
  rw [show 5 + j = (4 + j) + 1 by omega, List.getElem?_cons_succ]
  unfold stCs
  rw [List.getElem?_append_right (by show 4 ≤ 4 + j; omega), show 4 + j - [Value.int .i64 c.seg, .int .i64 c.off, .int .i64 c.ring, .int .i64 c.a].length = j by show 4 + j - 4 = j; omega]
  rw [List.getElem?_append_left (by rw [flat_length ptr3_len, h.ps]; omega), hu]
theorem strW_load (w : World) (y : Addr) (v : Value) (h : w.cell? y = some v) : (Instr.loadAt 9 (.pointer (some y))).run Tryz.prog w = .ok v w := by
  have h1 := Tryz.underlying9
  go_simp
theorem strsW_load (w : World) (y : Addr) (v : Value) (h : w.cell? y = some v) : (Instr.loadAt 39 (.pointer (some y))).run Tryz.prog w = .ok v w := by
  have h1 := Tryz.underlying39
  go_simp
set_option maxRecDepth 8000 in
set_option maxHeartbeats 4000000 in
theorem plsame_any (c : Cp) (h4 : c.ps.length = 4) (bs : List ByteArray) (b1 b2 : Option Addr) (d1 d2 : Nat) (a1 a2 : Option Addr) (c1 c2 : Nat) (w : World) (hn : c.st.length ≤ 1000) (hbn : bs.length ≤ 1000) (q1 : RowAt 1 scl w b1 bs) (q2 : RowAt 1 scl w b2 bs) (r1 : RowAt 3 frc w a1 c.st) (r2 : RowAt 3 frc w a2 c.st) :
    Calls Tryz.prog 14 #[.agg (prL (.slice b1 bs.length d1) (stCs c (.slice a1 c.st.length c1))).toArray, .agg (prL (.slice b2 bs.length d2) (stCs c (.slice a2 c.st.length c2))).toArray] w fun e w' => e = .returned (.bool true) ∧ Below w.heap.size w w' := by
  have hundP := Tryz.underlying42
  have hszP : (Tryz.prog.info? 42).map (·.size) = some 12 := by kernel_rfl
  have hundF := Tryz.underlying101
  have hszF : (Tryz.prog.info? 101).map (·.size) = some 3 := by kernel_rfl
  obtain ⟨n, hnn⟩ : ∃ n, c.st.length = n := ⟨_, rfl⟩
  obtain ⟨nb, hnb⟩ : ∃ n, bs.length = n := ⟨_, rfl⟩
  rw [hnn] at hn ⊢
  rw [hnb] at hbn ⊢
  replace hnn : Aside (c.st.length = n) := hnn
  replace hnb : Aside (bs.length = nb) := hnb
  have f0 := blkl_alloc w (prL (.slice b1 nb d1) (stCs c (.slice a1 n c1))).toArray 57
  have g0 := alloc_below w (.cells (prL (.slice b1 nb d1) (stCs c (.slice a1 n c1))).toArray 57)
  have f1 := blkl_alloc (w.alloc (.cells (prL (.slice b1 nb d1) (stCs c (.slice a1 n c1))).toArray 57)) (prL (.slice b2 nb d2) (stCs c (.slice a2 n c2))).toArray 57
  have g1 := alloc_below (w.alloc (.cells (prL (.slice b1 nb d1) (stCs c (.slice a1 n c1))).toArray 57)) (.cells (prL (.slice b2 nb d2) (stCs c (.slice a2 n c2))).toArray 57)
  rw [World.size_alloc] at f1
  have hs1 : PrAt w.heap.size (.slice b1 nb d1) c (.slice a1 n c1) ((w.alloc (.cells (prL (.slice b1 nb d1) (stCs c (.slice a1 n c1))).toArray 57)).alloc (.cells (prL (.slice b2 nb d2) (stCs c (.slice a2 n c2))).toArray 57)) := ⟨h4, stab_blk _ _ _ _ f0 g1⟩
  have ht0 : PrAt (w.heap.size + 1) (.slice b2 nb d2) c (.slice a2 n c2) ((w.alloc (.cells (prL (.slice b1 nb d1) (stCs c (.slice a1 n c1))).toArray 57)).alloc (.cells (prL (.slice b2 nb d2) (stCs c (.slice a2 n c2))).toArray 57)) := ⟨h4, f1⟩
  have hB1 := Below.then g0 g1
  clear f0 g0 f1 g1
  obtain ⟨X, hX⟩ : ∃ X, prL (.slice b1 nb d1) (stCs c (.slice a1 n c1)) = X := ⟨_, rfl⟩
  obtain ⟨Y, hY⟩ : ∃ Y, prL (.slice b2 nb d2) (stCs c (.slice a2 n c2)) = Y := ⟨_, rfl⟩
  rw [hX, hY] at hs1 hB1 ht0 ⊢
  clear hX hY
  have hneq := run_neq_pts h4
  have hp1 := hs1.pts
  have hp2 := ht0.pts
  have hlen : (c.ps.flatMap ptr3).length = 12 := by rw [flat_length ptr3_len, h4]
  obtain ⟨Z, hZ⟩ : ∃ Z, c.ps.flatMap ptr3 = Z := ⟨_, rfl⟩
  rw [hZ] at hp1 hp2 hneq hlen
  clear hZ
  have hszZ : (Tryz.prog.info? 42).map (·.size) = some Z.length := by rw [hlen]; exact hszP
  clear hlen
  go_enter Tryz.func14, Tryz.ntmps14
  go_upto_region 1 with fail
  generalize (w.alloc (.cells X.toArray 57)).alloc (.cells Y.toArray 57) = W0 at *
  have r1' := r1.below frc_len hB1
  have r2' := r2.below frc_len hB1
  have q1' := q1.below scl_ok.len hB1
  have q2' := q2.below scl_ok.len hB1
  have xb := hs1.bnd
  have x0 := hs1.seg
  have x1 := hs1.off
  have x2 := hs1.ring
  have x3 := hs1.a
  have x4 := hs1.hl
  have x5 := hs1.stk
  have yb := ht0.bnd
  have y0 := ht0.seg
  have y1 := ht0.off
  have y2 := ht0.ring
  have y3 := ht0.a
  have y4 := ht0.hl
  have y5 := ht0.stk
  clear r1 r2 q1 q2 hs1 ht0
  go_wp2_with (first | (refine wpList_load_midg (by rfl) _ rfl w.heap.size 5 rfl Z hp1 hundP rfl hszZ ?_) | (refine wpList_load_midg (by rfl) _ rfl (w.heap.size + 1) 5 rfl Z hp2 hundP rfl hszZ ?_) | fail)
  go_loopw [5] (fun t5 wr => ∃ k : Nat, k ≤ nb ∧ t5 = .int .i64 (k : Int) ∧ Below W0.heap.size W0 wr) (fun t5 _ => nb - (Go.RowKit.intOf t5).toNat)
  case atStart => exact ⟨0, by omega, rfl, Below.refl _ _⟩
  case round =>
  obtain ⟨k, hk, rfl, hd⟩ := hrel
  replace xb := (hd.cell (World.block_lt_of_cell? _ _ xb)).trans xb
  replace yb := (hd.cell (World.block_lt_of_cell? _ _ yb)).trans yb
  replace x5 := (hd.cell (World.block_lt_of_cell? _ _ x5)).trans x5
  replace y5 := (hd.cell (World.block_lt_of_cell? _ _ y5)).trans y5
  replace r1' := r1'.below frc_len hd
  replace r2' := r2'.below frc_len hd
  replace q1' := q1'.below scl_ok.len hd
  replace q2' := q2'.below scl_ok.len hd
  clear x0 x1 x2 x3 x4 y0 y1 y2 y3 y4 hp1 hp2 hneq
  by_cases hkn : k < nb
  · obtain ⟨f, hf⟩ : ∃ f, bs[k]? = some f := ⟨_, List.getElem?_eq_getElem (by rw [hnb.out]; exact hkn)⟩
    obtain ⟨z1, rfl, -⟩ := q1' k f hf
    obtain ⟨z2, rfl, -⟩ := q2' k f hf
    have g1 := q1'.at scl_ok.len hf
    have g2 := q2'.at scl_ok.len hf
    rw [Nat.mul_one] at g1 g2
    have e1 : wr.cell? (z1.add k) = some (.string f) := g1 0 _ rfl
    have e2 : wr.cell? (z2.add k) = some (.string f) := g2 0 _ rfl
    have i1 : (k : Int) < (nb : Int) := by omega
    clear hf r1' r2' q1' q2' g1 g2 x5 y5
    go_upto_region 6 with fail
    obtain ⟨Z, hZ⟩ : ∃ Z, wr = Z := ⟨_, rfl⟩
    rw [hZ] at xb yb e1 e2 hd ⊢
    clear hZ
    have hS0 : Below Z.heap.size Z Z.drew := (Below.refl _ _).drew
    refine wp_region_held_drew (S := (fun W => Below Z.heap.size Z W)) (by kernel_rfl) (by exact hS0) ?_
    intro hHeld
    generalize Z.drew = w0 at *
    refine tkA 0 ?_
    refine tkB 1 (y := yields_cellI (by rfl) _ rfl ⟨w.heap.size, 0, none⟩ rfl (.slice (some z1) nb d1) (fun _ q => (q.cell (World.block_lt_of_cell? _ _ xb)).trans xb) strsW_load) (h := ?_)
    refine tkA 2 ?_
    refine tkA 3 ?_
    refine tkB 4 (y := yields_cellI (by rfl) _ rfl (z1.add k) rfl (.string f) (fun _ q => (q.cell (World.block_lt_of_cell? _ _ e1)).trans e1) strW_load) (h := ?_)
    refine tkA 5 ?_
    refine tkB 6 (y := yields_cellI (by rfl) _ rfl ⟨(w.heap.size + 1), 0, none⟩ rfl (.slice (some z2) nb d2) (fun _ q => (q.cell (World.block_lt_of_cell? _ _ yb)).trans yb) strsW_load) (h := ?_)
    refine tkA 7 ?_
    refine tkA 8 ?_
    refine tkB 9 (y := yields_cellI (by rfl) _ rfl (z2.add k) rfl (.string f) (fun _ q => (q.cell (World.block_lt_of_cell? _ _ e2)).trans e2) strW_load) (h := ?_)
    refine tkA 10 ?_
    refine wpAnyH_done (by kernel_rfl) ?_ _
    have hd2 := Below.then hd hS0
    go_wp2_with fail
    exact ⟨⟨k + 1, by omega, by simp, hd2⟩, by simp [Go.RowKit.intOf]; omega⟩
  have i1 : ¬ (k : Int) < (nb : Int) := by omega
  replace hB1 := Below.then hB1 hd
  go_wp2_with fail
  clear hkn i1 hd hk
  go_loopw [6] (fun t5 wr2 => ∃ k : Nat, k ≤ n ∧ t5 = .int .i64 (k : Int) ∧ Below wr.heap.size wr wr2) (fun t5 _ => n - (Go.RowKit.intOf t5).toNat)
  case atStart => exact ⟨0, by omega, rfl, Below.refl _ _⟩
  case round =>
  obtain ⟨k, hk, rfl, hd⟩ := hrel
  replace x5 := (hd.cell (World.block_lt_of_cell? _ _ x5)).trans x5
  replace y5 := (hd.cell (World.block_lt_of_cell? _ _ y5)).trans y5
  replace r1' := r1'.below frc_len hd
  replace r2' := r2'.below frc_len hd
  clear q1' q2' xb yb
  by_cases hkn : k < n
  · obtain ⟨f, hf⟩ : ∃ f, c.st[k]? = some f := ⟨_, List.getElem?_eq_getElem (by rw [hnn.out]; exact hkn)⟩
    obtain ⟨z1, rfl, -⟩ := r1' k f hf
    obtain ⟨z2, rfl, -⟩ := r2' k f hf
    have g1 := r1'.at frc_len hf
    have g2 := r2'.at frc_len hf
    have hfq := run_neq_fr f
    have i1 : (k : Int) < (n : Int) := by omega
    clear hf r1' r2'
    go_upto_region 11 with fail
    obtain ⟨Z, hZ⟩ : ∃ Z, wr = Z := ⟨_, rfl⟩
    rw [hZ] at x5 y5 g1 g2 hd ⊢
    clear hZ
    have hS0 : Below Z.heap.size Z Z.drew := (Below.refl _ _).drew
    refine wp_region_held_drew (S := (fun W => Below Z.heap.size Z W)) (by kernel_rfl) (by exact hS0) ?_
    intro hHeld
    generalize Z.drew = w0 at *
    refine tkA 0 ?_
    refine tkA 1 ?_
    refine tkB 2 (y := yields_cellI (by rfl) _ rfl ⟨w.heap.size, 17, none⟩ rfl (.slice (some z1) n c1) (fun _ q => (q.cell (World.block_lt_of_cell? _ _ x5)).trans x5) frs_load) (h := ?_)
    refine tkA 3 ?_
    refine tkA 4 ?_
    refine tkB 5 (y := yields_at (by rfl) _ rfl (z1.add (k * 3)) rfl (frc f) (fun _ q => CellsAt.below g1 q) hundF rfl hszF) (h := ?_)
    refine tkA 6 ?_
    refine tkA 7 ?_
    refine tkB 8 (y := yields_cellI (by rfl) _ rfl ⟨(w.heap.size + 1), 17, none⟩ rfl (.slice (some z2) n c2) (fun _ q => (q.cell (World.block_lt_of_cell? _ _ y5)).trans y5) frs_load) (h := ?_)
    refine tkA 9 ?_
    refine tkA 10 ?_
    refine tkB 11 (y := yields_at (by rfl) _ rfl (z2.add (k * 3)) rfl (frc f) (fun _ q => CellsAt.below g2 q) hundF rfl hszF) (h := ?_)
    refine tkA 12 ?_
    refine wpAnyH_done (by kernel_rfl) ?_ _
    have hd2 := Below.then hd hS0
    go_wp2_with fail
    exact ⟨⟨k + 1, by omega, by simp, hd2⟩, by simp [Go.RowKit.intOf]; omega⟩
  · have i1 : ¬ (k : Int) < (n : Int) := by omega
    have hfin := Below.then hB1 hd
    go_wp2_with fail
    go_ret
    exact ⟨rfl, hfin⟩
end Go.Proofs.YtidihdiffiffmaaGreatDoor
namespace Go.Proofs.YtidihdiffiffmaaGreatDoor
open Go.RowKit
set_option maxRecDepth 8000
set_option linter.unusedSimpArgs false
set_option linter.unusedVariables false
section
variable {ops : Array Oper} {rest : List Oper} {o : Oper} {a : Act} {w W : World} {Q : Exit → Act → World → Prop} {T : TypeId}
theorem wpList_stL (hg : o.guard = none) (x z : Operand) (ho : o.op = .store T x z) (y : Addr) (hx : a.eval x = .pointer (some y)) (v : Value) (hz : a.eval z = v) (hst : (Instr.storeAt T (.pointer (some y)) v).run Tryz.prog w = .ok () (w.setCell y v)) (h : wpList Tryz.prog ops Q rest (a.put o.dst undef) (w.setCell y v)) : wpList Tryz.prog ops Q (o :: rest) a w :=
  wpList_plain hg fun _ hK => by
    unfold Oper.wp
    simp [execOp, ho, hx, hz, hst, Result.andThen]
    exact hK _ _ h
end
abbrev zSB : Array Value := #[.string ⟨#[]⟩, .int .i64 0, .int .i64 0, .int .i64 0, .int .i64 0]
theorem rlbotW_any (w : World) :
    Calls Tryz.prog 23 #[] w fun e w' => e = .returned bottomL.v ∧ Below w.heap.size w w' := by
  go_enter Tryz.func23, Tryz.ntmps23
  go_wp2
  refine bodyPost_ret (v := bottomL.v) (by simp [results, Tryz.results23, go_sem, bottomL]) rfl ⟨rfl, (Below.refl _ _).alloc (Nat.le_refl _) _⟩
theorem first_row {W0 W1 : World} {v : Value} (ho : OwnN W1 W0.heap.size v (firstP [bottomL] 1 (some ⟨W0.heap.size + 1, 0, none⟩))) (hg : GrsAt W1 (some ⟨W0.heap.size + 1, 0, none⟩) allG) : ∃ (a : Option Addr) (c : Nat) (L : List PN), v = .slice a 2 c ∧ L.length = 2 ∧ RowN W1 a L ∧ namesP L = kpL0 := by
  obtain ⟨ag, hag⟩ : ∃ ag, (some ⟨W0.heap.size + 1, 0, none⟩ : Option Addr) = ag := ⟨_, rfl⟩
  rw [hag] at ho hg
  obtain ⟨L, hL⟩ : ∃ L, firstP [bottomL] 1 ag = L := ⟨_, rfl⟩
  have hLn : namesP L = kpL0 := by rw [← hL, firstP_names]; rfl
  have hLl : L.length = 2 := by rw [← hL, firstP_len]; decide +kernel
  have hLa : ∀ x ∈ L, x.At W1 := fun x hx => by
    rw [← hL] at hx
    obtain ⟨d, hd, rfl⟩ := List.mem_map.1 hx
    have hda : d.acl = allG ∧ d.words = [] := by
      rcases first_mem hd with rfl | ⟨k, t, _, _, rfl⟩
      · exact ⟨rfl, rfl⟩
      · exact ⟨rfl, rfl⟩
    refine ⟨?_, ?_⟩
    · show GrsAt W1 ag d.acl
      rw [hda.1]
      exact hg
    · show WrdsAt W1 none d.words
      rw [hda.2]
      exact fun j q hq => by simp at hq
  rw [hL] at ho
  obtain ⟨a, c, rfl, _, _, hr⟩ := OwnR.slice pn_len ho
  exact ⟨a, c, L, by rw [hLl], hLl, ⟨hr, hLa⟩, hLn⟩
set_option maxRecDepth 20000 in
set_option maxHeartbeats 8000000 in
theorem lknown_any (w : World) (hV : MaxV w) : Calls Tryz.prog 9 #[] w fun e w' => e = .returned (.bool true) ∧ Below w.heap.size w w' := by
  have hund := Tryz.underlying36
  have hundM := Tryz.underlying52
  have hundP := Tryz.underlying47
  have hszN : (Tryz.prog.info? 36).map (·.size) = some 16 := by kernel_rfl
  have hsm : (Tryz.prog.info? 52).map (·.size) = some 5 := by kernel_rfl
  have hszP : (Tryz.prog.info? 47).map (·.size) = some 19 := by kernel_rfl
  have kb := rlbotW_any
  go_enter Tryz.func9, Tryz.ntmps9
  go_wp2_with fail
  refine (kb w).mono ?_
  rintro e W0 ⟨rfl, hB0⟩
  have hrow := row_made lab_ok.len W0 bottomL #[.int .i64 bottomL.s, .int .i64 bottomL.c, .int .i64 bottomL.i, .int .i64 bottomL.k] rfl 30
  have hb := alloc_below W0 (.cells #[.int .i64 bottomL.s, .int .i64 bottomL.c, .int .i64 bottomL.i, .int .i64 bottomL.k] 30)
  have kf := rfirstT_any (some ⟨W0.heap.size, 0, none⟩) 1 [bottomL] none none 0 0 0 0 (by decide) _ hrow
  have hB1 := Below.then hB0 hb
  obtain ⟨W1, hW1⟩ : ∃ W1, W0.alloc (.cells #[.int .i64 bottomL.s, .int .i64 bottomL.c, .int .i64 bottomL.i, .int .i64 bottomL.k] 30) = W1 := ⟨_, rfl⟩
  rw [hW1] at kf hB1
  replace kf : Calls Tryz.prog 25 #[.agg #[.slice (some ⟨W0.heap.size, 0, none⟩) 1 1, .slice none 0 0, .slice none 0 0]] W1 _ := kf
  clear hrow hb hB0
  go_wp2_with fail
  (try rw [hW1])
  refine kf.mono ?_
  rintro e W2 ⟨v, rfl, ho, hg, hb⟩
  obtain ⟨a1, c1, L1, rfl, hL1, hr1, hn1⟩ := first_row ho hg
  have hB2 := Below.then hB1 hb
  clear kf ho hg hb hB1 hW1
  have hrp := row_made (f := pgcl) pg_len1 W2 (⟨[], none, 0⟩ : PPg) #[.slice none 0 0] rfl 92
  have hb := alloc_below W2 (.cells #[.slice none 0 0] 92)
  have hB3 := Below.then hB2 hb
  have kp := pput_any 0 (by decide) a1 c1 L1 (some ⟨W2.heap.size, 0, none⟩) 1 [⟨[], none, 0⟩] none 0 [] none 0 [] (by omega) _ (hr1.below hb) hrp (fun x hx => by obtain rfl := List.mem_singleton.1 hx; exact ⟨fun j x h => by simp at h, by simp⟩) (fun j x h => by simp at h) (fun j x h => by simp at h)
  rw [dirS0, hL1, hn1] at kp
  replace kp : Calls Tryz.prog 24 #[.slice a1 2 c1, .string ⟨#[47, 108, 48]⟩, .slice (some ⟨W2.heap.size, 0, none⟩) 1 1, .slice none 0 0, .slice none 0 0] (W2.alloc (.cells #[.slice none 0 0] 92)) (PutR kpL1 (W2.alloc (.cells #[.slice none 0 0] 92))) := kp
  clear hrp hb hB2 hr1 hn1 hL1
  go_wp2_with fail
  refine kp.mono ?_
  rintro e W4 ⟨l4, a4, c4, rfl, hr4, hn4, hb⟩
  have hB4 := Below.then hB3 hb
  clear hb hB3 kp
  have hl4 : l4.length = 3 := by
    have h1 : (namesP l4).length = l4.length := by simp [namesP]
    rw [← h1, hn4]
    decide +kernel
  obtain ⟨d, hd, hdn⟩ : ∃ d, findP l4 kpS = some d ∧ d.n = kpN0 := by
    have h1 := find_names l4 kpS
    rw [hn4, kp_find] at h1
    cases h2 : findP l4 kpS with
    | none => rw [h2] at h1; cases h1
    | some d => rw [h2] at h1; exact ⟨d, rfl, (Option.some.inj h1).symm⟩
  have hdat := hr4.p d (List.mem_of_find?_eq_some hd)
  have kfd := rfindT_any a4 c4 l4 kpS (by omega) W4 hr4
  rw [hd, hl4] at kfd
  replace kfd : Calls Tryz.prog 16 #[.slice a4 3 c4, .string ⟨#[47, 108, 48, 47, 112, 48]⟩] W4 fun e w' => e = .returned (.tuple #[.agg d.cs.toArray, .bool true]) ∧ Below W4.heap.size W4 w' := kfd
  rw [hl4]
  clear hd
  go_wp2_with fail
  refine kfd.mono ?_
  rintro e W5 ⟨rfl, hb5⟩
  obtain ⟨W6, hW6, hth6, hnd, hb⟩ := put_new W5 ZNP 36 d.cs (by rw [pn_len]; rfl) (by rw [pn_len]; decide)
  have hb46 := Below.then hb5 hb
  have hszd : (Tryz.prog.info? 36).map (·.size) = some d.cs.length := by rw [pn_len]; exact hszN
  have hone := pn_one d
  have hg45 : W4.heap.size ≤ W5.heap.size := hb5.size
  go_upto_region 3 with (first | (refine wpList_store_row rfl _ _ rfl W5.heap.size rfl d.cs rfl hth6 hszd hone hW6 ?_) | fail)
  clear kfd hb hb5 hth6 hW6 hszd hone
  generalize W5.heap.size = gn at *
  have how := own_oneP wd_okC W6 (Nat.le_refl _) (0 : Int)
  have hb := alloc_below W6 (.cells (wcl 0).toArray 2)
  have hgn6 : gn < W6.heap.size := hnd.2
  have hnd7 := stab_blk _ _ _ _ hnd hb
  have hb47 := Below.then hb46 hb
  obtain ⟨W7, hW7⟩ : ∃ W7, W6.alloc (.cells (wcl 0).toArray 2) = W7 := ⟨_, rfl⟩
  have hW7' : Aside (W6.alloc (.cells #[.int .i64 0] 2) = W7) := hW7
  rw [hW7] at how hnd7 hb47
  have hq11 := (hnd7.1 11 _ rfl).1
  have hf11 := (hnd7.1 11 _ rfl).2
  have hnd8 := blk_setS hnd7 (i := 11) (by rw [pn_len]; decide) (.slice (some ⟨W6.heap.size, 0, none⟩) 1 1)
  have how8 := how.set (g := gn) (j := 11) (u := .slice (some ⟨W6.heap.size, 0, none⟩) 1 1) (fun q => by have h9 : W6.heap.size = gn := Option.some.inj q; omega)
  have hb48 := hb47.setCell (p := ⟨gn, 11, none⟩) (by show W4.heap.size ≤ gn; omega) (.slice (some ⟨W6.heap.size, 0, none⟩) 1 1)
  obtain ⟨x, hx⟩ : ∃ x : PN, x = { d with n := { d.n with words := [0] }, wa := some ⟨W6.heap.size, 0, none⟩, cw := 1 } := ⟨_, rfl⟩
  have hxn : x.n = kpN1 := by rw [hx]; show { d.n with words := [0] } = _; rw [hdn]; rfl
  obtain ⟨W8, hW8⟩ : ∃ W8, W7.setCell ⟨gn, 11, none⟩ (.slice (some ⟨W6.heap.size, 0, none⟩) 1 1) = W8 := ⟨_, rfl⟩
  rw [hW8] at hnd8 how8 hb48
  replace hnd8 : BlkL gn x.cs W8 := by rw [hx]; exact hnd8
  have hxat : x.At W8 := by
    obtain ⟨a2, c2, e2, -, -, r2⟩ := how8.slice wd_okC.len
    injection e2 with q4 q5 q6
    subst q4
    rw [hx]
    exact ⟨(hdat.below hb48).g, row_wrds r2⟩
  clear hx hdn hdat how how8 hnd hnd7 hb hb46 hb47
  have hr8 := hr4.below hb48
  have hB8 := Below.then hB4 hb48
  have hgr := hnd8.range
  have hszx : (Tryz.prog.info? 36).map (·.size) = some x.cs.length := by rw [pn_len]; exact hszN
  have kput := rputT_any a4 c4 l4 x (by omega) W8 hr8
  rw [hl4] at kput
  have hnl9 : namesP (putP l4 x) = kpL2 := by rw [put_names, hn4, hxn]; rfl
  go_upto_region 4 with (first | (refine wpList_stL rfl _ _ rfl ⟨gn, 11, none⟩ rfl (.slice (some ⟨W6.heap.size, 0, none⟩) 1 1) rfl (by rw [hW7'.out]; exact wrdsP_store _ _ _ _ hq11 hf11 rfl) ?_) | fail)
  rw [hW7'.out, hW8]
  clear hq11 hf11 hW8 hW7 hW7'
  go_wp2_with (first | (refine wpList_load_row rfl _ rfl gn rfl x.cs hgr hund rfl hszx ?_) | fail)
  refine kput.mono ?_
  rintro e W9 ⟨v9, rfl, ho9, hb⟩
  obtain ⟨l9, hl9⟩ : ∃ l9, putP l4 x = l9 := ⟨_, rfl⟩
  obtain ⟨a9, c9, hv9, -, -, -⟩ := ho9.slice pn_len
  subst hv9
  have hr9 := put_rowN ho9 hr8 hxat hb
  rw [hl9] at hr9 hnl9
  have hll9 : l9.length = 3 := by
    have h1 : (namesP l9).length = l9.length := by simp [namesP]
    rw [← h1, hnl9]
    decide +kernel
  rw [hl9, hll9]
  have hB9 := Below.then hB8 hb
  have hF9 : FineL l9 := ⟨by omega, by rw [hnl9]; exact kp_inv.tr.ord, fun y hy => kp_inv.tr.ok y.n (by rw [← hnl9]; exact List.mem_map.2 ⟨y, hy, rfl⟩)⟩
  have hI9 : InvP (namesP l9) := by rw [hnl9]; exact kp_inv
  clear kput ho9 hb hl9 hr8 hxat hgr hszx hnd8 hxn hr4 hn4 hl4 hb48 hB8 hB4
  go_wp2_with fail
  refine (kb W9).mono ?_
  rintro e W10 ⟨rfl, hb10⟩
  obtain ⟨W11, hW11, hth11, hsb, hb⟩ := put_new W10 zSB 52 (sbL kaS bottomL) rfl (by decide)
  have hb911 := Below.then hb10 hb
  have hsz11 : (Tryz.prog.info? 52).map (·.size) = some (sbL kaS bottomL).length := hsm
  have hon11 := sbL_one kaS bottomL
  go_upto_region 6 with (first | (refine wpList_store_row rfl _ _ rfl W10.heap.size rfl (sbL kaS bottomL) rfl hth11 hsz11 hon11 hW11 ?_) | fail)
  have hrs := hsb.range
  clear hth11 hW11 hb hb10 hon11
  generalize W10.heap.size = gs at *
  have hB11 := Below.then hB9 hb911
  have hrp := row_made scl_ok.len W11 kpS #[.string kpS] rfl 9
  have hb := alloc_below W11 (.cells #[.string kpS] 9)
  have hb912 := Below.then hb911 hb
  have hB12 := Below.then hB11 hb
  have km := pmake_any a9 c9 l9 kaS bottomL (some ⟨W11.heap.size, 0, none⟩) 1 [kpS] hF9 bottom_GL (by decide) (fun p hp => by obtain rfl := List.mem_singleton.1 hp; decide) _ (hr9.below hb912) hrp (hV.below hB12)
  rw [hnl9, kp_make, hll9] at km
  replace km : Calls Tryz.prog 12 #[.slice a9 3 c9, .agg (sbL kaS bottomL).toArray, .slice (some ⟨W11.heap.size, 0, none⟩) 1 1] (W11.alloc (.cells #[.string kpS] 9)) _ := km
  clear hrp
  go_wp2_with (first | (refine wpList_load_row rfl _ rfl gs rfl (sbL kaS bottomL) hrs hundM rfl hsz11 ?_) | fail)
  refine km.mono ?_
  rintro e W13 ⟨hb13, -, h0⟩
  obtain ⟨bv, rfl, hob⟩ := h0 rfl
  clear km h0
  obtain ⟨ba, bc, rfl, -, -, hrb⟩ := hob.slice scl_ok.len
  obtain ⟨W14, hW14, hth14, hpr, hb14⟩ := put_new W13 zPC 47 (prL (.slice ba 1 bc) (stCs newC nilS)) rfl (by simp)
  have hb1314 := Below.then hb13 hb14
  have hb914 := Below.then hb912 hb1314
  have hB14 := Below.then hB12 hb1314
  have hsz14 : (Tryz.prog.info? 47).map (·.size) = some (prL (.slice ba 1 bc) (stCs newC nilS)).length := hszP
  have hon14 : ∀ x ∈ prL (.slice ba 1 bc) (stCs newC nilS), x.oneCell' = true := fun x hx => (List.mem_cons.1 hx).elim (fun q => by rw [q]; rfl) (fun q => st_one newC nilS rfl x q)
  have hsb14 := stab_blk _ _ _ _ hsb (Below.then hb hb1314)
  have hrb14 := hrb.below scl_ok.len hb14
  have kr := prunA_any a9 c9 l9 kaS bottomL ba bc [kpS] newC nilS 5 ⟨kpL2, kpC, [], true, 0⟩ hF9 hI9 bottom_GL (by decide) (fun p hp => by obtain rfl := List.mem_singleton.1 hp; decide) newC_ok rfl (by decide) (by rw [hnl9]; exact kp_run) W14 (hr9.below hb914) hrb14 (SV.nil _) (hV.below hB14)
  rw [hll9] at kr
  obtain ⟨X, hX⟩ : ∃ X, prL (.slice ba 1 bc) (stCs newC nilS) = X := ⟨_, rfl⟩
  replace kr : Calls Tryz.prog 17 #[.slice a9 3 c9, .agg (sbL kaS bottomL).toArray, .agg X.toArray, .int .i64 5] W14 (RunP [kpS] 3 ⟨kpL2, kpC, [], true, 0⟩ W14) := by rw [← hX]; exact kr
  have hXe : Aside (Value.agg (prL (.slice ba 1 bc) (stCs newC nilS)).toArray = .agg X.toArray) := by show _ = _; rw [hX]
  rw [hX] at hW14 hth14 hpr hsz14 hon14
  go_upto_region 7 with (first | (refine wpList_store_row rfl _ _ rfl W13.heap.size rfl X hXe.out hth14 hsz14 hon14 hW14 ?_) | (refine wpList_store_row rfl _ _ rfl W13.heap.size rfl X rfl hth14 hsz14 hon14 hW14 ?_) | fail)
  have hrs14 := hsb14.range
  have hrp14 := hpr.range
  clear hXe hX hth14 hW14 hon14 hpr hsb14 hrb14 hrb hob hsb hb hb912 hb911 hb13 hb14 hb1314 hB12 hB11 hB9 hrs hr9 hF9 hI9 hnl9 hb914
  go_wp2_with (first | (refine wpList_load_row rfl _ rfl gs rfl (sbL kaS bottomL) hrs14 hundM rfl hsz11 ?_) | (refine wpList_load_row rfl _ rfl W13.heap.size rfl X hrp14 hundP rfl hsz14 ?_) | fail)
  refine kr.mono ?_
  rintro e W15 ⟨l15, B15, bv15, v15, tv, rfl, -, -, -, -, -, -, -, hob15, hov15, hot, hb15⟩
  obtain ⟨ta, tc, rfl, -, -, -⟩ := hot.slice wd_okC.len
  obtain ⟨ba2, bc2, rfl, -, -, -⟩ := hob15.slice scl_ok.len
  have hv15 := (SV.own hov15).one
  have h4C : (prL (.slice ba2 1 bc2) (stCs kpC v15)).length = 19 := by
    show (stCs kpC v15).length + 1 = 19
    rw [st_len (by decide +kernel : kpC.ps.length = 4)]
  obtain ⟨W16, hW16, hth16, hp16, hb16⟩ := put_new W15 zPC 47 (prL (.slice ba2 1 bc2) (stCs kpC v15)) (by rw [h4C]; rfl) (by simp)
  have hsz16 : (Tryz.prog.info? 47).map (·.size) = some (prL (.slice ba2 1 bc2) (stCs kpC v15)).length := by rw [h4C]; exact hszP
  have hon16 : ∀ x ∈ prL (.slice ba2 1 bc2) (stCs kpC v15), x.oneCell' = true := fun x hx => (List.mem_cons.1 hx).elim (fun q => by rw [q]; rfl) (fun q => st_one kpC v15 hv15 x q)
  have hfin := Below.then hB14 (Below.then hb15 hb16)
  obtain ⟨Y, hY⟩ : ∃ Y, prL (.slice ba2 1 bc2) (stCs kpC v15) = Y := ⟨_, rfl⟩
  have hYe : Aside (Value.agg (prL (.slice ba2 1 bc2) (stCs kpC v15)).toArray = .agg Y.toArray) := by show _ = _; rw [hY]
  rw [hY] at hW16 hth16 hsz16 hon16
  clear h4C kr hob15 hov15 hot hb15 hb16 hp16 hB14 hY
  go_wp2_with (first | (refine wpList_store_row rfl _ _ rfl W15.heap.size rfl Y hYe.out hth16 hsz16 hon16 hW16 ?_) | (refine wpList_store_row rfl _ _ rfl W15.heap.size rfl Y rfl hth16 hsz16 hon16 hW16 ?_) | fail)
  go_ret
  exact ⟨rfl, hfin⟩
end Go.Proofs.YtidihdiffiffmaaGreatDoor
namespace Go.Proofs.YtidihdiffiffmaaGreatDoor
open Go.RowKit
set_option maxRecDepth 8000
set_option linter.unusedSimpArgs false
set_option linter.unusedVariables false
theorem run_hl {u : ByteArray} {t : Lab} {bs : List ByteArray} : ∀ {n : Nat} {L : List Nod} {c : Cp}, c.hl = false → (runP u t bs n L c).over = false → (runP u t bs n L c).c.hl = false
  | 0, L, c, hc, h => hc
  | n + 1, L, c, hc, h => by
    rw [runP] at h ⊢
    by_cases h1 : (stepC c (segsP L u t bs)).e ≠ 0
    · rw [if_pos h1] at h; cases h
    rw [if_neg h1] at h ⊢
    by_cases h2 : (stepC c (segsP L u t bs)).t.hl = true
    · rw [if_pos h2] at h; cases h
    rw [if_neg h2] at h ⊢
    exact run_hl (by simpa using h2) h
theorem run_stop {u : ByteArray} {t : Lab} {bs : List ByteArray} {n m : Nat} {L : List Nod} {c : Cp} (h : (runP u t bs n L c).over = true) (hm : n ≤ m) : runP u t bs m L c = runP u t bs n L c := by
  rw [show m = n + (m - n) by omega, run_add]
  unfold thenR
  rw [if_pos h]
theorem run_next {u : ByteArray} {t : Lab} {bs : List ByteArray} {n : Nat} {L : List Nod} {c : Cp} (h : (runP u t bs n L c).over = false) (m : Nat) : runP u t bs (n + m) L c = ⟨(runP u t bs m (runP u t bs n L c).l (runP u t bs n L c).c).l, (runP u t bs m (runP u t bs n L c).l (runP u t bs n L c).c).c, (runP u t bs n L c).out ++ (runP u t bs m (runP u t bs n L c).l (runP u t bs n L c).c).out, (runP u t bs m (runP u t bs n L c).l (runP u t bs n L c).c).over, (runP u t bs m (runP u t bs n L c).l (runP u t bs n L c).c).e⟩ := by
  rw [run_add]
  unfold thenR
  rw [if_neg (by rw [h]; decide)]
theorem run_outlen {u : ByteArray} {t : Lab} {bs : List ByteArray} : ∀ (n : Nat) (L : List Nod) (c : Cp), (runP u t bs n L c).out.length ≤ n
  | 0, L, c => Nat.zero_le _
  | n + 1, L, c => by
    have ht : (toldO (stepC c (segsP L u t bs))).length ≤ 1 := by
      unfold toldO
      split
      · exact Nat.le_refl _
      · exact Nat.zero_le _
    rw [runP]
    split
    · exact Nat.zero_le _
    · split
      · show (toldO _).length ≤ _
        omega
      · show (toldO _ ++ _).length ≤ _
        have := run_outlen (u := u) (t := t) (bs := bs) n (wrL L bs (stepC c (segsP L u t bs)).wr) (stepC c (segsP L u t bs)).t
        rw [List.length_append]
        omega
theorem run_ok {u : ByteArray} {t : Lab} {bs : List ByteArray} (n : Nat) {L : List Nod} {c : Cp} (hI : InvP L) (hc : c.Ok) : CfL L u t (runP u t bs n L c).l ∧ InvP (runP u t bs n L c).l ∧ (runP u t bs n L c).c.Ok := run_conf u t bs L n L c hI hc (fun _ _ => rfl) (cfL_refl L u t)
theorem fit_nil : FitM (([] : List PM).map (·.m)) := fun m hm => by cases hm
theorem rowM_nil (w : World) : RowM w none [] := ⟨fun j x hx => by simp at hx, fun x hx => by cases hx⟩
theorem icell_nil (w : World) : RowAt 1 icell w none [] := fun j x hx => by simp at hx
theorem inv_fits {l : List PN} {L : List Nod} (h : namesP l = L) (hI : InvP L) : Fits l := fun x hx => by
  have h1 := nodC_zero.1 (hI.tr.ok x.n (by rw [← h]; exact List.mem_map.2 ⟨x, hx, rfl⟩))
  have h3 : x.n.acl.length ≤ 4 := by
    have q := h1.2.2.2.1
    unfold chkA at q
    by_cases q4 : 4 < x.n.acl.length
    · rw [if_pos q4] at q; cases q
    · omega
  have hw : x.n.words.length ≤ 16 := by
    cases hd : x.n.dir with
    | true => have := (h1.2.2.2.2.1 hd).2; omega
    | false => exact (h1.2.2.2.2.2 hd).2.2
  exact ⟨by omega, by omega⟩
end Go.Proofs.YtidihdiffiffmaaGreatDoor
namespace Go.Proofs.YtidihdiffiffmaaGreatDoor
open Go.RowKit
set_option maxRecDepth 8000
set_option linter.unusedSimpArgs false
set_option linter.unusedVariables false
theorem RowAt.grew {α : Type} {sz gb : Nat} {f : α → List Value} {w w' : World} {v v' : Value} {l : List α} (hf : ∀ x, (f x).length = sz) (h : RowAt sz f w (some ⟨gb, 0, none⟩) l) (hg : Grew w v w' v') (hne : v.ownBlock ≠ some gb) : RowAt sz f w' (some ⟨gb, 0, none⟩) l := fun j x hx => by
  obtain ⟨y, hy, hc⟩ := h j x hx
  refine ⟨y, hy, fun i hi => ?_⟩
  have h1 := hc i hi
  obtain ⟨u, hu⟩ : ∃ u, (f x)[i]? = some u := ⟨_, List.getElem?_eq_getElem (by rw [hf]; exact hi)⟩
  rw [hu] at h1 ⊢
  have hlt := World.block_lt_of_cell? _ _ h1
  injection hy with hy
  subst hy
  have hb := hg.by_.block _ hlt (by rw [addC_block]; exact fun q => hne q.symm)
  exact (World.cell?_of_block hb).trans h1
end Go.Proofs.YtidihdiffiffmaaGreatDoor
namespace Go.Proofs.YtidihdiffiffmaaGreatDoor
open Go.RowKit
set_option maxRecDepth 8000
set_option linter.unusedSimpArgs false
set_option linter.unusedVariables false
theorem st_setA {c : Cp} (v : Value) (x : Int) : (stCs c v).set 3 (.int .i64 x) = stCs { c with a := x } v := rfl
theorem StAt.setA {b : Nat} {c : Cp} {v : Value} {W : World} (h : StAt b c v W) (x : Int) : StAt b { c with a := x } v (W.setCell ⟨b, 3, none⟩ (.int .i64 x)) := by
  have h1 := h.blk.1.set 3 (.int .i64 x) (by rw [st_len h.ps]; decide)
  rw [st_setA] at h1
  exact ⟨h.ps, h1, h1.lt rfl⟩
theorem SV.off {v : Value} {st : List Fr} {W W' : World} {b : Nat} (h : SV v st W) (hne : v.ownBlock ≠ some b) (k : Sole b W W') : SV v st W' := by
  obtain ⟨a, cap, hv, hn, hr⟩ := h
  refine ⟨a, cap, hv, hn, fun j x hx => ?_⟩
  obtain ⟨y, hy, hc⟩ := hr j x hx
  refine ⟨y, hy, fun i hi => ?_⟩
  have h1 := hc i hi
  obtain ⟨u, hu⟩ : ∃ u, (frc x)[i]? = some u := ⟨_, List.getElem?_eq_getElem (by rw [frc_len]; exact hi)⟩
  rw [hu] at h1 ⊢
  have hlt := World.block_lt_of_cell? _ _ h1
  have hb := k.block _ hlt (by rw [addC_block]; intro q; apply hne; rw [hv, hy]; simp [Value.ownBlock, q])
  exact (World.cell?_of_block hb).trans h1
abbrev z3 : Array Value := #[.int .i64 0, .int .i64 0, .int .i64 0]
end Go.Proofs.YtidihdiffiffmaaGreatDoor
namespace Go.Proofs.YtidihdiffiffmaaGreatDoor
open Go.RowKit
set_option maxRecDepth 8000
set_option linter.unusedSimpArgs false
set_option linter.unusedVariables false
structure RS (w W : World) (u : ByteArray) (t : Lab) (b : Value) (X : List Value) : Prop where
  bl : Below w.heap.size w W
  sb : BlkL w.heap.size (sbL u t) W
  pr : BlkL (w.heap.size + 1) (prL b X) W
  rs : BlkL (w.heap.size + 2) (prL nilS (stCs zeroC nilS)) W
theorem RS.then {w W W' : World} {u : ByteArray} {t : Lab} {b : Value} {X : List Value} (h : RS w W u t b X) (k : Below W.heap.size W W') : RS w W' u t b X := ⟨Below.then h.bl k, stab_blk _ _ _ _ h.sb k, stab_blk _ _ _ _ h.pr k, stab_blk _ _ _ _ h.rs k⟩
structure Three (b : Nat) (g : Option Nat) (V W : World) : Prop where
  os : W.os = V.os
  tape : W.tape = V.tape
  output : W.output = V.output
  size : V.heap.size ≤ W.heap.size
  block : ∀ j, j < V.heap.size → (j < b ∨ b + 3 ≤ j) → g ≠ some j → W.heap[j]? = V.heap[j]?
theorem Three.of {b : Nat} {g : Option Nat} {V W : World} (h : Below V.heap.size V W) : Three b g V W := ⟨h.os, h.tape, h.output, h.size, fun j hj _ _ => h.block j hj⟩
theorem Three.trans {b : Nat} {g : Option Nat} {U V W : World} (h : Three b g U V) (k : Three b g V W) : Three b g U W := ⟨k.os.trans h.os, k.tape.trans h.tape, k.output.trans h.output, Nat.le_trans h.size k.size, fun j hj hn hg => (k.block j (Nat.lt_of_lt_of_le hj h.size) hn hg).trans (h.block j hj hn hg)⟩
theorem Three.cells {b q : Nat} {g : Option Nat} {V W : World} (h : Three b g V W) (h1 : b ≤ q) (h2 : q < b + 3) (o : Nat) (us : List Value) : Three b g V (W.setCells q o us) := by
  have k := Below.cells (B := 0) (b := q) (Nat.zero_le _) us o (Below.refl 0 W)
  exact ⟨k.os.trans h.os, k.tape.trans h.tape, k.output.trans h.output, Nat.le_trans h.size k.size, fun j hj hn hg => (heap_setCells_other (by omega) us o W).trans (h.block j hj hn hg)⟩
theorem Three.drew {b : Nat} {g : Option Nat} {V W : World} (h : Three b g V W) : Three b g V W.drew := ⟨h.os, h.tape, h.output, h.size, h.block⟩
theorem Three.below {b : Nat} {w V W : World} (h : Below b w V) (k : Three b none V W) (hb : b ≤ w.heap.size) : Below b w W := ⟨k.os.trans h.os, k.tape.trans h.tape, k.output.trans h.output, Nat.le_trans h.size k.size, fun j hj => (k.block j (by have := h.size; omega) (.inl hj) (fun q => by cases q)).trans (h.block j hj)⟩
def Stay (b : Nat) (g : Option Nat) (V : World) (P : World → Prop) : Prop := ∀ W, Three b g V W → P W
theorem Stay.then {b : Nat} {g : Option Nat} {V W : World} {P : World → Prop} (h : Stay b g V P) (k : Three b g V W) : Stay b g W P := fun X hX => h X (k.trans hX)
theorem Stay.now {b : Nat} {g : Option Nat} {V : World} {P : World → Prop} (h : Stay b g V P) : P V := h V (Three.of (Below.refl _ _))
theorem Stay.grew {b : Nat} {V W : World} {v v' : Value} {P : World → Prop} (h : Stay b v.ownBlock V P) (hs : V.heap.size ≤ W.heap.size) (ho : W.os = V.os) (ht : W.tape = V.tape) (hu : W.output = V.output) (hk : ∀ j, j < V.heap.size → v.ownBlock ≠ some j → W.heap[j]? = V.heap[j]?) (hv : ∀ j, v'.ownBlock = some j → v.ownBlock = some j ∨ V.heap.size ≤ j) : Stay b v'.ownBlock W P := fun X hX => by
  refine h X ⟨hX.os.trans ho, hX.tape.trans ht, hX.output.trans hu, Nat.le_trans hs hX.size, fun j hj hn hg => ?_⟩
  refine (hX.block j (Nat.lt_of_lt_of_le hj hs) hn (fun q => ?_)).trans (hk j hj hg)
  rcases hv j q with q | q
  · exact hg q
  · omega
theorem Stay.grewG {b : Nat} {V W : World} {v v' : Value} {P : World → Prop} (h : Stay b v.ownBlock V P) (k : Grew V v W v') : Stay b v'.ownBlock W P :=
  h.grew k.by_.size k.by_.os k.by_.tape k.by_.output (fun j hj hn => k.by_.block j hj (fun q => hn q.symm)) fun j q => by
    rcases k.at_ with e | e
    · exact .inl (by rw [← e]; exact q)
    · exact .inr (e j q)
theorem RS.low {w V W : World} {u : ByteArray} {t : Lab} {b : Value} {X : List Value} (h : RS w V u t b X) (k : Below (w.heap.size + 3) V W) : RS w W u t b X :=
  ⟨h.bl.trans (k.mono (by omega)), ⟨h.sb.1.same (k.block _ (by omega)), Nat.lt_of_lt_of_le h.sb.2 k.size⟩, ⟨h.pr.1.same (k.block _ (by omega)), Nat.lt_of_lt_of_le h.pr.2 k.size⟩, ⟨h.rs.1.same (k.block _ (by omega)), Nat.lt_of_lt_of_le h.rs.2 k.size⟩⟩
end Go.Proofs.YtidihdiffiffmaaGreatDoor
namespace Go.Proofs.YtidihdiffiffmaaGreatDoor
open Go.RowKit
set_option maxRecDepth 8000
set_option linter.unusedSimpArgs false
set_option linter.unusedVariables false
theorem row_listP {α : Type} {sz : Nat} {f : α → List Value} (hf : ∀ x, (f x).length = sz) (w : World) (l : List α) (cs : Array Value) (hcs : cs = (l.flatMap f).toArray) (T : TypeId) : RowAt sz f (w.alloc (.cells cs T)) (some ⟨w.heap.size, 0, none⟩) l := fun j x hx => by
  refine ⟨_, rfl, fun i hi => ?_⟩
  rw [add_at, World.cell?_alloc_at _ _ _ _ rfl, hcs]
  rw [List.getElem?_toArray, flat_at hf l j i x hx hi]
theorem fine_of {l : List PN} {L : List Nod} (h : namesP l = L) (hI : InvP L) (hl : l.length ≤ 1000) : FineL l := ⟨hl, by rw [h]; exact hI.tr.ord, fun y hy => hI.tr.ok y.n (by rw [← h]; exact List.mem_map.2 ⟨y, hy, rfl⟩)⟩
theorem pr_oneL (bv : Value) (c : Cp) (v : Value) (hb : bv.oneCell' = true) (hv : v.oneCell' = true) : ∀ x ∈ prL bv (stCs c v), x.oneCell' = true := fun x hx => (List.mem_cons.1 hx).elim (fun q => by rw [q]; exact hb) (fun q => st_one c v hv x q)
theorem pr_lenL {c : Cp} (h : c.ps.length = 4) (bv v : Value) : (prL bv (stCs c v)).length = 19 := by
  show (stCs c v).length + 1 = 19
  rw [st_len h]
end Go.Proofs.YtidihdiffiffmaaGreatDoor
namespace Go.Proofs.YtidihdiffiffmaaGreatDoor
open Go.RowKit
set_option maxRecDepth 8000
set_option linter.unusedSimpArgs false
set_option linter.unusedVariables false
theorem own_rowS {α : Type} {e : TypeId} {sz base n c : Nat} {f : α → List Value} {W : World} {a : Option Addr} {l : List α} (hl : ∀ x, (f x).length = sz) (h : OwnR e sz f W base (.slice a n c) l) : RowAt sz f W a l := by
  obtain ⟨a1, c1, q, -, -, r⟩ := h.slice hl
  injection q with q1 q2 q3
  rw [q1]
  exact r
theorem pn_labAt {W : World} {g : Nat} {x : PN} (h : BlkL g x.cs W) : CellsAt W ⟨g, 2, none⟩ (lab4 x.n.label) := fun j v hv => by
  have e : (⟨g, 2, none⟩ : Addr).add j = ⟨g, 2 + j, none⟩ := by
    unfold Addr.add
    split <;> simp_all
  rw [e]
  refine (h.1 (2 + j) v ?_).1
  match j, hv with
  | 0, hv => exact hv
  | 1, hv => exact hv
  | 2, hv => exact hv
  | 3, hv => exact hv
structure SpI (w : World) (b0 gp N : Nat) (bs : List ByteArray) (KP : World → Prop) (r : Rn) (W : World) (l : List PN) (a ba : Option Addr) (bc : Nat) (v tv : Value) : Prop where
  row : Sty gp tv.ownBlock W (fun X => RowN X a l)
  nm : namesP l = r.l
  len : l.length = N
  box : BlkL gp (prL (.slice ba bs.length bc) (stCs r.c v)) W
  bnd : Sty gp tv.ownBlock W (fun X => RowAt 1 scl X ba bs)
  sv : Sty gp tv.ownBlock W (fun X => SV v r.c.st X)
  out : OwnR 2 1 wcl W b0 tv r.out
  keep : Sty gp tv.ownBlock W KP
  bl : Below w.heap.size w W
  lo : b0 ≤ W.heap.size
  glt : gp < b0
  wlt : w.heap.size ≤ gp
theorem SpI.step {w W W1 : World} {b0 gp N : Nat} {bs : List ByteArray} {KP : World → Prop} {r r1 : Rn} {l l1 : List PN} {a ba ba1 ta1 : Option Addr} {bc bc1 B1 tc1 : Nat} {v v1 tv : Value}
    (h : SpI w b0 gp N bs KP r W l a ba bc v tv) (hb : Below W.heap.size W W1) (hN : 0 < N) (hn : l1.length = N) (hB1 : W.heap.size ≤ B1) (hr1 : RowN W1 (some ⟨B1, 0, none⟩) l1) (hx1 : OwnX W1 (B1 + 1) l1) (hnm : namesP l1 = r1.l) (h4 : r.c.ps.length = 4) (h41 : r1.c.ps.length = 4)
    (ho1 : OwnR 9 1 scl W1 W.heap.size (.slice ba1 bs.length bc1) bs) (hv1 : OwnR 102 3 frc W1 W.heap.size v1 r1.c.st) (ht1 : OwnR 2 1 wcl W1 W.heap.size (.slice ta1 r1.out.length tc1) r1.out) (hl : r.out.length < 1000) (hl1 : r1.out.length < 1000) :
    ∃ W2, W1.setCells gp 0 (prL (.slice ba1 bs.length bc1) (stCs r1.c v1)) = W2 ∧ W1.there gp 0 (prL (.slice ba1 bs.length bc1) (stCs r1.c v1)).length ∧ ∃ v2 W3, (Builtin.append_ #[34, 34] 34 #[tv, .slice ta1 r1.out.length tc1]).run Tryz.prog W2 = .ok v2 W3 ∧
      SpI w b0 gp N bs KP ⟨r1.l, r1.c, r.out ++ r1.out, r1.over, r1.e⟩ W3 l1 (some ⟨B1, 0, none⟩) ba1 bc1 v1 v2 := by
  have hp1 := stab_blk _ _ _ _ h.box hb
  obtain ⟨W2, hW2, hth, hp2, hk2⟩ := put_any hp1 (ds := prL (.slice ba1 bs.length bc1) (stCs r1.c v1)) (by rw [pr_lenL h4, pr_lenL h41]) (by rw [pr_lenL h41]; decide)
  have hz := hb.size
  have hglt := h.glt
  have hlo := h.lo
  have hgW : gp < W.heap.size := by omega
  have o12 : ∀ g, One gp g W1 W2 := fun g => by rw [← hW2]; exact (One.of (Below.refl _ _)).cells 0 _
  have o02 : One gp tv.ownBlock W W2 := (One.of hb).trans (o12 _)
  have htv : ∀ j, tv.ownBlock = some j → j < W.heap.size := fun j q => (h.out.lt q).2
  have hz2 : W1.heap.size ≤ W2.heap.size := (o12 none).size
  have hout2 : OwnR 2 1 wcl W2 b0 tv r.out := (h.out.below hb).keep fun j hj => (o12 none).block j (by have := htv j hj; omega) (by have := (h.out.lt hj).1; omega) (by simp)
  have ht2 := Sty.own (g := none) ht1 hgW (by simp) W2 (o12 none)
  obtain ⟨ta', tc', e, -, hno, hrt⟩ := ht2.slice wd_okC.len
  injection e with q1 q2 q3
  subst q1 q3
  obtain ⟨v2, W3, hap, ho3, hg3⟩ := OwnR.append_any wd_okC hout2 (by omega) ta1 r1.out.length tc1 r1.out rfl hrt (fun q => ⟨hno q, by
    cases hh : r1.out with
    | nil => rfl
    | cons y ys =>
      obtain ⟨z, hz, -⟩ := hrt 0 y (by rw [hh]; rfl)
      rw [q] at hz
      cases hz⟩) (by omega) (by omega)
  have hbb := hout2.grew_below (by omega) hg3
  refine ⟨W2, hW2, hth, v2, W3, hap, ?_⟩
  refine ⟨((Sty.nodes (g := tv.ownBlock) hr1 hx1 (rowN_lt hr1 (by omega)) (by omega) (fun j q => by have := htv j q; omega)).then (o12 _)).grewG hg3, hnm, hn, ?_, ?_, ?_, ho3, (h.keep.then o02).grewG hg3, ?_, by have := hbb.size; omega, hglt, h.wlt⟩
  · have hne : tv.ownBlock ≠ some gp := fun q => by have := (h.out.lt q).1; omega
    exact ⟨hp2.1.same (hg3.by_.block gp hp2.2 (fun q => hne q.symm)), Nat.lt_of_lt_of_le hp2.2 hbb.size⟩
  · have q := ((Sty.own (g := tv.ownBlock) ho1 hgW (fun j q q' => by have := htv j q; have := (ho1.lt q').1; omega)).then (o12 _)).grewG hg3
    exact fun X hX => own_rowS scl_ok.len (q X hX)
  · have q := ((Sty.own (g := tv.ownBlock) hv1 hgW (fun j q q' => by have := htv j q; have := (hv1.lt q').1; omega)).then (o12 _)).grewG hg3
    exact fun X hX => SV.own (q X hX)
  · exact (hk2 _ _ h.wlt (Below.then h.bl hb)).trans (hbb.mono (by have := h.wlt; omega))
structure SpK (gs gb : Nat) (t : Lab) (aA : Option Addr) (lA : List PN) (Y : List Value) (bA : Option Addr) (bs : List ByteArray) (vA : Value) (st : List Fr) (tA : Option Addr) (oA : List Int) (W : World) : Prop where
  s : BlkL gs (sbL kaS t) W
  a : RowN W aA lA
  b : BlkL gb Y W
  bb : RowAt 1 scl W bA bs
  sv : SV vA st W
  t : RowAt 1 wcl W tA oA
end Go.Proofs.YtidihdiffiffmaaGreatDoor
namespace Go.Proofs.YtidihdiffiffmaaGreatDoor
open Go.RowKit
set_option maxRecDepth 8000
set_option linter.unusedSimpArgs false
set_option linter.unusedVariables false
theorem i64L_store (w : World) (y : Addr) (u : Value) (x : Int) (hc : w.cell? y = some u) (hf : w.frozen? y = false) : (Instr.storeAt 2 (.pointer (some y)) (.int .i64 x)).run Tryz.prog w = .ok () (w.setCell y (.int .i64 x)) := by
  have h1 := Tryz.underlying2
  go_simp
theorem boolL_store (w : World) (y : Addr) (u : Value) (x : Bool) (hc : w.cell? y = some u) (hf : w.frozen? y = false) : (Instr.storeAt 4 (.pointer (some y)) (.bool x)).run Tryz.prog w = .ok () (w.setCell y (.bool x)) := by
  have h1 := Tryz.underlying4
  go_simp
theorem boolL_load (w : World) (y : Addr) (v : Value) (h : w.cell? y = some v) : (Instr.loadAt 4 (.pointer (some y))).run Tryz.prog w = .ok v w := by
  have h1 := Tryz.underlying4
  go_simp
theorem pr_build (a : Option Addr) (n c : Nat) (w : World) : (Instr.build 57 #[(0, .slice a n c)]).run Tryz.prog w = .ok (.agg (prL (.slice a n c) (stCs zeroC nilS)).toArray) w := by
  have h1 := Tryz.underlying57
  unfold prL stCs
  go_simp
  exact ⟨rfl, rfl, rfl, rfl, rfl⟩
theorem pr_six {c : Cp} (h : c.ps.length = 4) (bv : Value) : (setM (((((prL bv (stCs zeroC nilS)).set 1 (.int .i64 c.seg)).set 2 (.int .i64 c.off)).set 3 (.int .i64 c.ring)).set 4 (.int .i64 c.a)) 5 (c.ps.flatMap ptr3)).set 18 (.bool c.hl) = prL bv (stCs c nilS) := by
  obtain ⟨p0, p1, p2, p3, hl⟩ := four h
  obtain ⟨s, o, rg, a, ps, st, hl'⟩ := c
  simp only at hl
  subst hl
  rfl
theorem PrAt.setStk {b : Nat} {bv : Value} {c : Cp} {v : Value} {W : World} (h : PrAt b bv c v W) (u : Value) : PrAt b bv c u (W.setCell ⟨b, 17, none⟩ u) := by
  have h1 := blk_setS h.blk (i := 17) (by show 17 < (stCs c v).length + 1; rw [st_len h.ps]; decide) u
  have h2 : (prL bv (stCs c v)).set 17 u = prL bv ((stCs c v).set 16 u) := rfl
  rw [h2, st_setStk h.ps] at h1
  exact ⟨h.ps, h1⟩
theorem PrAt.keep {b : Nat} {bv : Value} {c : Cp} {v : Value} {W W' : World} (h : PrAt b bv c v W) (hb : Below W.heap.size W W') : PrAt b bv c v W' := ⟨h.ps, stab_blk _ _ _ _ h.blk hb⟩
theorem blk_keepB {b : Nat} {cs : List Value} {W W' : World} {B : Nat} (h : BlkL b cs W) (hb : Below B W W') (hlt : b < B) : BlkL b cs W' := ⟨h.1.same (hb.block b hlt), Nat.lt_of_lt_of_le h.2 hb.size⟩
theorem add_blockL (y : Addr) (j : Nat) : (y.add j).block = y.block := by unfold Addr.add; split <;> rfl
structure FrS (b4 : Nat) (sv : Value) (y : Addr) (f : Fr) (W : World) : Prop where
  s : W.cell? ⟨b4, 16, none⟩ = some sv
  f : CellsAt W y (frc f)
theorem FrS.c0 {b4 : Nat} {sv : Value} {y : Addr} {f : Fr} {W : World} (h : FrS b4 sv y f W) : W.cell? y = some (.int .i64 f.s) := h.f 0 _ rfl
theorem FrS.c1 {b4 : Nat} {sv : Value} {y : Addr} {f : Fr} {W : World} (h : FrS b4 sv y f W) : W.cell? ⟨y.block, y.off + 1, none⟩ = some (.int .i64 f.f) := h.f 1 _ rfl
theorem FrS.c2 {b4 : Nat} {sv : Value} {y : Addr} {f : Fr} {W : World} (h : FrS b4 sv y f W) : W.cell? ⟨y.block, y.off + 2, none⟩ = some (.int .i64 f.r) := h.f 2 _ rfl
theorem FrS.below {b4 : Nat} {sv : Value} {y : Addr} {f : Fr} {W W' : World} {B : Nat} (h : FrS b4 sv y f W) (hb : Below B W W') (h1 : b4 < B) (h2 : y.block < B) : FrS b4 sv y f W' := ⟨(hb.cell (p := ⟨b4, 16, none⟩) h1).trans h.s, fun j v hv => (hb.cell (p := y.add j) (by rw [add_blockL]; exact h2)).trans (h.f j v hv)⟩
theorem FrS.set {b4 : Nat} {sv : Value} {y : Addr} {f : Fr} {W : World} (h : FrS b4 sv y f W) {g : Nat} (h1 : b4 ≠ g) (h2 : y.block ≠ g) (o : Nat) (u : Value) : FrS b4 sv y f (W.setCell ⟨g, o, none⟩ u) := ⟨(World.cell?_of_block (a := ⟨b4, 16, none⟩) (heap_setCell_other W ⟨g, o, none⟩ b4 u h1)).trans h.s, fun j v hv => (World.cell?_of_block (a := y.add j) (heap_setCell_other W ⟨g, o, none⟩ (y.add j).block u (by rw [add_blockL]; exact h2))).trans (h.f j v hv)⟩
set_option maxRecDepth 8000 in
set_option maxHeartbeats 4000000 in
theorem plstate_any (ba : Option Addr) (nb bc : Nat) (c : Cp) (h4 : c.ps.length = 4) (a1 : Option Addr) (c1 : Nat) (w : World) (hn : c.st.length ≤ 1000) (r1 : RowAt 3 frc w a1 c.st) :
    Calls Tryz.prog 15 #[.agg (prL (.slice ba nb bc) (stCs c (.slice a1 c.st.length c1))).toArray] w fun e w' => ∃ v, e = .returned (.agg (prL (.slice ba nb bc) (stCs c v)).toArray) ∧ OwnR 101 3 frc w' w.heap.size v c.st ∧ Below w.heap.size w w' := by
  have hundP := Tryz.underlying42
  have hszP : (Tryz.prog.info? 42).map (·.size) = some 12 := by kernel_rfl
  have hundS := Tryz.underlying45
  have hszS : (Tryz.prog.info? 45).map (·.size) = some 18 := by kernel_rfl
  have hundQ := Tryz.underlying57
  have hszQ : (Tryz.prog.info? 57).map (·.size) = some 19 := by kernel_rfl
  obtain ⟨n, hnn⟩ : ∃ n, c.st.length = n := ⟨_, rfl⟩
  rw [hnn] at hn ⊢
  replace hnn : Aside (c.st.length = n) := hnn
  have hXl : (stCs c (.slice a1 n c1)).length = 18 := st_len h4
  have hXo := st_one c (.slice a1 n c1) rfl
  have f0 := blkl_alloc w (prL (.slice ba nb bc) (stCs c (.slice a1 n c1))).toArray 47
  have g0 := alloc_below w (.cells (prL (.slice ba nb bc) (stCs c (.slice a1 n c1))).toArray 47)
  have f1 := blkl_alloc (w.alloc (.cells (prL (.slice ba nb bc) (stCs c (.slice a1 n c1))).toArray 47)) zPC 57
  have g1 := alloc_below (w.alloc (.cells (prL (.slice ba nb bc) (stCs c (.slice a1 n c1))).toArray 47)) (.cells zPC 57)
  rw [World.size_alloc] at f1
  have hP : BlkL w.heap.size (prL (.slice ba nb bc) (stCs c (.slice a1 n c1))) ((w.alloc (.cells (prL (.slice ba nb bc) (stCs c (.slice a1 n c1))).toArray 47)).alloc (.cells zPC 57)) := stab_blk _ _ _ _ f0 g1
  have hR : BlkL (w.heap.size + 1) (prL nilS (stCs zeroC nilS)) ((w.alloc (.cells (prL (.slice ba nb bc) (stCs c (.slice a1 n c1))).toArray 47)).alloc (.cells zPC 57)) := f1
  have hB := Below.then g0 g1
  clear f0 g0 f1 g1
  obtain ⟨X, hX⟩ : ∃ X, stCs c (.slice a1 n c1) = X := ⟨_, rfl⟩
  rw [hX] at hP hR hB hXl hXo ⊢
  replace hX : Aside (stCs c (.slice a1 n c1) = X) := hX
  have hbd := pr_build ba nb bc
  go_enter Tryz.func15, Tryz.ntmps15
  go_upto_region 1 with fail
  generalize (w.alloc (.cells (prL (.slice ba nb bc) X).toArray 47)).alloc (.cells zPC 57) = W0 at *
  have c00 := (hP.1 0 _ rfl).1
  obtain ⟨W1, hW1, hth1, hQ1, hb1⟩ := put_new W0 zPC 57 (prL (.slice ba nb bc) (stCs zeroC nilS)) rfl (by simp)
  have hszB : (Tryz.prog.info? 57).map (·.size) = some (prL (.slice ba nb bc) (stCs zeroC nilS)).length := hszQ
  have honeB : ∀ x ∈ prL (.slice ba nb bc) (stCs zeroC nilS), x.oneCell' = true := fun x hx => (List.mem_cons.1 hx).elim (fun q => by rw [q]; rfl) (fun q => st_one zeroC nilS rfl x q)
  obtain ⟨Y, hY⟩ : ∃ Y, prL (.slice ba nb bc) (stCs zeroC nilS) = Y := ⟨_, rfl⟩
  rw [hY] at hW1 hth1 hQ1 hszB honeB
  simp only [hY] at hbd
  replace hY : Aside _ := hY
  go_upto_region 2 with (first | (refine wpList_buildv rfl _ rfl #[(0, .slice ba nb bc)] (by simp [Act.eval]) (hbd _) ?_) | (refine wpList_store_row rfl _ _ rfl W0.heap.size rfl Y rfl hth1 hszB honeB hW1 ?_) | fail)
  have hl3 : w.heap.size + 1 < W0.heap.size := hR.2
  replace hP := stab_blk _ _ _ _ hP hb1
  replace hR := stab_blk _ _ _ _ hR hb1
  replace hB := Below.then hB hb1
  clear hb1 hth1 hW1 hszB honeB hbd c00
  generalize W0.heap.size = b3 at *
  have hsr : W1.rangeAt w.heap.size 1 X := fun j u hu => (hP.1 (1 + j) u (by rw [Nat.add_comm]; exact hu)).1
  have hszX : (Tryz.prog.info? 45).map (·.size) = some X.length := by rw [hXl]; exact hszS
  obtain ⟨W2, hW2, hth2, hS2, hb2⟩ := put_new W1 zS 45 X (by rw [hXl]; rfl) (by rw [hXl]; decide)
  go_upto_region 3 with (first | (refine wpList_load_midg (by rfl) _ rfl w.heap.size 1 rfl X hsr hundS rfl hszX ?_) | (refine wpList_store_row rfl _ _ rfl W1.heap.size rfl X rfl hth2 hszX hXo hW2 ?_) | fail)
  have hl4 : b3 < W1.heap.size := hQ1.2
  replace hR := stab_blk _ _ _ _ hR hb2
  replace hQ1 := stab_blk _ _ _ _ hQ1 hb2
  replace hB := Below.then hB hb2
  clear hb2 hth2 hW2 hszX hXo hsr hP hXl
  generalize W1.heap.size = b4 at *
  have hdr : Below W2.heap.size W2 W2.drew := (Below.refl _ _).drew
  have hS0 : StAt b4 c (.slice a1 n c1) W2.drew := ⟨h4, stab_blk _ _ _ _ (by rw [hX.out]; exact hS2) hdr⟩
  have hR0 := stab_blk _ _ _ _ hR hdr
  have hQ0 := stab_blk _ _ _ _ hQ1 hdr
  have hB0 : Below w.heap.size w W2.drew := hB.drew
  have hpl : (c.ps.flatMap ptr3).length = 12 := by rw [flat_length ptr3_len, h4]
  have hsix := pr_six h4 (.slice ba nb bc)
  have hZs : ∀ {W : World}, StAt b4 c (.slice a1 n c1) W → W.rangeAt b4 4 (c.ps.flatMap ptr3) := fun h => h.pts
  have hZo : ∀ u ∈ c.ps.flatMap ptr3, u.oneCell' = true := fun u hu => by
    obtain ⟨p, -, hp⟩ := List.mem_flatMap.1 hu
    simp [ptr3] at hp
    rcases hp with rfl | rfl | rfl <;> rfl
  obtain ⟨Z, hZ⟩ : ∃ Z, c.ps.flatMap ptr3 = Z := ⟨_, rfl⟩
  rw [hZ] at hpl hsix hZo
  simp only [hZ] at hZs
  clear hZ
  have hYl : Y.length = 19 := by rw [← hY.out]; rfl
  rw [hY.out] at hsix
  replace hsix : Aside _ := hsix
  have hszZ : (Tryz.prog.info? 42).map (·.size) = some Z.length := by rw [hpl]; exact hszP
  clear hS2 hR hQ1 hB hdr hY hX
  refine wp_region_held_drew (S := (fun W => StAt b4 c (.slice a1 n c1) W)) (by kernel_rfl) (by exact hS0) ?_
  intro hHeld
  generalize W2.drew = w0 at *
  refine tkA 0 ?_
  refine tkB 1 (y := yields_cellI (by rfl) _ rfl ⟨b4, 0, none⟩ rfl (.int .i64 c.seg) (fun _ s => StAt.seg s) intI_load) (h := ?_)
  refine tkA 2 ?_
  refine tkB 3 (y := yields_cellI (by rfl) _ rfl ⟨b4, 1, none⟩ rfl (.int .i64 c.off) (fun _ s => StAt.off s) intI_load) (h := ?_)
  refine tkA 4 ?_
  refine tkB 5 (y := yields_cellI (by rfl) _ rfl ⟨b4, 2, none⟩ rfl (.int .i64 c.ring) (fun _ s => StAt.ring s) intI_load) (h := ?_)
  refine tkA 6 ?_
  refine tkB 7 (y := yields_cellI (by rfl) _ rfl ⟨b4, 3, none⟩ rfl (.int .i64 c.a) (fun _ s => StAt.a s) i64C_load) (h := ?_)
  refine tkA 8 ?_
  refine tkB 9 (y := yieldsIf_load_mid (by rfl) 42 _ rfl b4 4 rfl Z _ (fun W s => hZs s) hundP rfl hszZ) (h := ?_)
  refine tkA 10 ?_
  refine tkB 11 (y := yields_cellI (by rfl) _ rfl ⟨b4, 17, none⟩ rfl (.bool c.hl) (fun _ s => StAt.hl s) boolL_load) (h := ?_)
  refine tkA 12 ?_
  refine tkA 13 ?_
  refine tkR (rs := [14]) ?_
  refine tkC (fun K hK => ?_) AllReadyH.nil
  obtain ⟨u1, hu1⟩ : ∃ u, w0.cell? ⟨b3, 1, none⟩ = some u ∧ w0.frozen? ⟨b3, 1, none⟩ = false := ⟨_, hQ0.1 1 _ (List.getElem?_eq_getElem (by simp [hYl, setM_len, hpl]))⟩
  have hQ1 := blk_setS hQ0 (i := 1) (by simp [hYl, setM_len, hpl]) (.int .i64 c.seg)
  have hS1 : StAt b4 c (.slice a1 n c1) (w0.setCell ⟨b3, 1, none⟩ (.int .i64 c.seg)) := ⟨h4, blk_setO hS0.blk (by omega) 1 (.int .i64 c.seg)⟩
  have hR1 := blk_setO hR0 (g := b3) (by omega) 1 (.int .i64 c.seg)
  have hB1 := hB0.setCell (p := ⟨b3, 1, none⟩) (by show w.heap.size ≤ b3; omega) (.int .i64 c.seg)
  refine step_st rfl _ _ rfl ⟨b3, 1, none⟩ rfl (.int .i64 c.seg) rfl (int_store _ _ _ _ hu1.1 hu1.2) ?_
  (try simp only [Act.put, zsA, zsB, zsC])
  refine hK.out _ _ (hS1) ?_
  clear hHeld hK
  intro hHeld
  clear hu1
  generalize w0.setCell ⟨b3, 1, none⟩ (.int .i64 c.seg) = w1 at *
  clear hS0 hR0 hQ0 hB0
  (try simp only [Act.put, zsA, zsB, zsC])
  refine tkA 15 ?_
  refine tkA 16 ?_
  refine tkR (rs := [17]) ?_
  refine tkC (fun K hK => ?_) AllReadyH.nil
  obtain ⟨u2, hu2⟩ : ∃ u, w1.cell? ⟨b3, 2, none⟩ = some u ∧ w1.frozen? ⟨b3, 2, none⟩ = false := ⟨_, hQ1.1 2 _ (List.getElem?_eq_getElem (by simp [hYl, setM_len, hpl]))⟩
  have hQ2 := blk_setS hQ1 (i := 2) (by simp [hYl, setM_len, hpl]) (.int .i64 c.off)
  have hS2 : StAt b4 c (.slice a1 n c1) (w1.setCell ⟨b3, 2, none⟩ (.int .i64 c.off)) := ⟨h4, blk_setO hS1.blk (by omega) 2 (.int .i64 c.off)⟩
  have hR2 := blk_setO hR1 (g := b3) (by omega) 2 (.int .i64 c.off)
  have hB2 := hB1.setCell (p := ⟨b3, 2, none⟩) (by show w.heap.size ≤ b3; omega) (.int .i64 c.off)
  refine step_st rfl _ _ rfl ⟨b3, 2, none⟩ rfl (.int .i64 c.off) rfl (int_store _ _ _ _ hu2.1 hu2.2) ?_
  (try simp only [Act.put, zsA, zsB, zsC])
  refine hK.out _ _ (hS2) ?_
  clear hHeld hK
  intro hHeld
  clear hu2
  generalize w1.setCell ⟨b3, 2, none⟩ (.int .i64 c.off) = w2 at *
  clear hS1 hR1 hQ1 hB1
  (try simp only [Act.put, zsA, zsB, zsC])
  refine tkA 18 ?_
  refine tkA 19 ?_
  refine tkR (rs := [20]) ?_
  refine tkC (fun K hK => ?_) AllReadyH.nil
  obtain ⟨u3, hu3⟩ : ∃ u, w2.cell? ⟨b3, 3, none⟩ = some u ∧ w2.frozen? ⟨b3, 3, none⟩ = false := ⟨_, hQ2.1 3 _ (List.getElem?_eq_getElem (by simp [hYl, setM_len, hpl]))⟩
  have hQ3 := blk_setS hQ2 (i := 3) (by simp [hYl, setM_len, hpl]) (.int .i64 c.ring)
  have hS3 : StAt b4 c (.slice a1 n c1) (w2.setCell ⟨b3, 3, none⟩ (.int .i64 c.ring)) := ⟨h4, blk_setO hS2.blk (by omega) 3 (.int .i64 c.ring)⟩
  have hR3 := blk_setO hR2 (g := b3) (by omega) 3 (.int .i64 c.ring)
  have hB3 := hB2.setCell (p := ⟨b3, 3, none⟩) (by show w.heap.size ≤ b3; omega) (.int .i64 c.ring)
  refine step_st rfl _ _ rfl ⟨b3, 3, none⟩ rfl (.int .i64 c.ring) rfl (int_store _ _ _ _ hu3.1 hu3.2) ?_
  (try simp only [Act.put, zsA, zsB, zsC])
  refine hK.out _ _ (hS3) ?_
  clear hHeld hK
  intro hHeld
  clear hu3
  generalize w2.setCell ⟨b3, 3, none⟩ (.int .i64 c.ring) = w3 at *
  clear hS2 hR2 hQ2 hB2
  (try simp only [Act.put, zsA, zsB, zsC])
  refine tkA 21 ?_
  refine tkA 22 ?_
  refine tkR (rs := [23]) ?_
  refine tkC (fun K hK => ?_) AllReadyH.nil
  obtain ⟨u4, hu4⟩ : ∃ u, w3.cell? ⟨b3, 4, none⟩ = some u ∧ w3.frozen? ⟨b3, 4, none⟩ = false := ⟨_, hQ3.1 4 _ (List.getElem?_eq_getElem (by simp [hYl, setM_len, hpl]))⟩
  have hQ4 := blk_setS hQ3 (i := 4) (by simp [hYl, setM_len, hpl]) (.int .i64 c.a)
  have hS4 : StAt b4 c (.slice a1 n c1) (w3.setCell ⟨b3, 4, none⟩ (.int .i64 c.a)) := ⟨h4, blk_setO hS3.blk (by omega) 4 (.int .i64 c.a)⟩
  have hR4 := blk_setO hR3 (g := b3) (by omega) 4 (.int .i64 c.a)
  have hB4 := hB3.setCell (p := ⟨b3, 4, none⟩) (by show w.heap.size ≤ b3; omega) (.int .i64 c.a)
  refine step_st rfl _ _ rfl ⟨b3, 4, none⟩ rfl (.int .i64 c.a) rfl (i64L_store _ _ _ _ hu4.1 hu4.2) ?_
  (try simp only [Act.put, zsA, zsB, zsC])
  refine hK.out _ _ (hS4) ?_
  clear hHeld hK
  intro hHeld
  clear hu4
  generalize w3.setCell ⟨b3, 4, none⟩ (.int .i64 c.a) = w4 at *
  clear hS3 hR3 hQ3 hB3
  (try simp only [Act.put, zsA, zsB, zsC])
  refine tkA 24 ?_
  refine tkA 25 ?_
  refine tkR (rs := [26]) ?_
  refine tkC (fun K hK => ?_) AllReadyH.nil
  obtain ⟨w5, hw5, hth5, hQ5, hb5⟩ := put_mid (Z := w) hQ4 5 Z (by simp [hpl, hYl]) (by simp [hYl]) hB4 (by omega)
  have hk5 : ∀ j, j ≠ b3 → w5.heap[j]? = w4.heap[j]? := fun j hj => by rw [← hw5]; exact heap_setCells_other hj _ _ _
  have hsz5 : w4.heap.size ≤ w5.heap.size := by rw [← hw5]; exact (Below.cells (Nat.zero_le b3) Z 5 (Below.refl 0 w4)).size
  have hS5 : StAt b4 c (.slice a1 n c1) w5 := ⟨h4, hS4.blk.1.same (hk5 b4 (by omega)), Nat.lt_of_lt_of_le hS4.blk.2 hsz5⟩
  have hR5 : BlkL (w.heap.size + 1) (prL nilS (stCs zeroC nilS)) w5 := ⟨hR4.1.same (hk5 _ (by omega)), Nat.lt_of_lt_of_le hR4.2 hsz5⟩
  have hB5 := hb5
  refine step_store_part rfl _ _ rfl b3 5 rfl Z rfl hth5 hszZ hZo hw5 ?_
  (try simp only [Act.put, zsA, zsB, zsC])
  refine hK.out _ _ (hS5) ?_
  clear hHeld hK
  intro hHeld
  clear hS4 hR4 hQ4 hB4 hk5 hsz5 hb5 hth5 hw5
  (try simp only [Act.put, zsA, zsB, zsC])
  refine tkA 27 ?_
  refine tkA 28 ?_
  refine tkR (rs := [29]) ?_
  refine tkC (fun K hK => ?_) AllReadyH.nil
  obtain ⟨u6, hu6⟩ : ∃ u, w5.cell? ⟨b3, 18, none⟩ = some u ∧ w5.frozen? ⟨b3, 18, none⟩ = false := ⟨_, hQ5.1 18 _ (List.getElem?_eq_getElem (by simp [hYl, setM_len, hpl]))⟩
  have hQ6 := blk_setS hQ5 (i := 18) (by simp [hYl, setM_len, hpl]) (.bool c.hl)
  have hS6 : StAt b4 c (.slice a1 n c1) (w5.setCell ⟨b3, 18, none⟩ (.bool c.hl)) := ⟨h4, blk_setO hS5.blk (by omega) 18 (.bool c.hl)⟩
  have hR6 := blk_setO hR5 (g := b3) (by omega) 18 (.bool c.hl)
  have hB6 := hB5.setCell (p := ⟨b3, 18, none⟩) (by show w.heap.size ≤ b3; omega) (.bool c.hl)
  refine step_st rfl _ _ rfl ⟨b3, 18, none⟩ rfl (.bool c.hl) rfl (boolL_store _ _ _ _ hu6.1 hu6.2) ?_
  (try simp only [Act.put, zsA, zsB, zsC])
  refine hK.out _ _ (hS6) ?_
  clear hHeld hK
  intro hHeld
  clear hu6
  generalize w5.setCell ⟨b3, 18, none⟩ (.bool c.hl) = w6 at *
  clear hS5 hR5 hQ5 hB5
  (try simp only [Act.put, zsA, zsB, zsC])
  refine wpAnyH_done (by kernel_rfl) ?_ _
  clear hHeld
  rw [hsix.out] at hQ6
  obtain ⟨W3, hW3⟩ : ∃ W, W = w6 := ⟨_, rfl⟩
  rw [← hW3] at hQ6 hR6 hS6 hB6 ⊢
  clear hW3 hsix
  have hS3 := hS6
  have hR3 := hR6
  have hQ3 := hQ6
  have hB3 := hB6
  clear hS6 hR6 hQ6 hB6
  have hRow := OwnR.nil 101 3 frc W3 (b4 + 1)
  go_wp2_with fail
  go_loopw [5] (fun t4 wr => ∃ (k : Nat) (v : Value), k ≤ n ∧ t4 = .int .i64 (k : Int) ∧ StAt b4 c (.slice a1 n c1) wr ∧ BlkL (w.heap.size + 1) (prL nilS (stCs zeroC nilS)) wr ∧ PrAt b3 (.slice ba nb bc) c v wr ∧ OwnR 101 3 frc wr (b4 + 1) v (c.st.take k) ∧ Below w.heap.size w wr) (fun t4 _ => n - (Go.RowKit.intOf t4).toNat)
  case atStart => exact ⟨0, _, by omega, rfl, hS3, hR3, ⟨h4, hQ3⟩, hRow, hB3⟩
  case round =>
  clear hS3 hR3 hQ3 hB3 hRow hpl hZo hZs hszZ hYl
  obtain ⟨k, v, hk, rfl, hs, ht, hst, ho, hB⟩ := hrel
  have x5 := hs.stk
  by_cases hkn : k < n
  · obtain ⟨f, hf⟩ : ∃ f, c.st[k]? = some f := ⟨_, List.getElem?_eq_getElem (by rw [hnn.out]; exact hkn)⟩
    have hstep : c.st.take (k + 1) = c.st.take k ++ [f] := by rw [List.take_add_one, hf]; rfl
    have r1' := r1.below frc_len hB
    obtain ⟨z1, hz1, hzc⟩ := r1 k f hf
    have hzw : (z1.add (k * 3)).block < w.heap.size := by
      have h0 := hzc 0 (by decide)
      have := World.block_lt_of_cell? _ _ (h0.trans rfl)
      rw [Nat.add_zero] at this
      exact this
    subst hz1
    have g1 := r1'.at frc_len hf
    have i1 : (k : Int) < (n : Int) := by omega
    replace hstep : Aside (c.st.take (k + 1) = c.st.take k ++ [f]) := hstep
    have hnl := hnn.out
    have hF : FrS b4 (.slice (some z1) n c1) (z1.add (k * 3)) f wr := ⟨x5, g1⟩
    clear hf r1' hzc g1
    go_upto_region 7 with fail
    obtain ⟨Z, hZ⟩ : ∃ Z, wr = Z := ⟨_, rfl⟩
    rw [hZ] at hF hs ht hst ho hB ⊢
    clear hZ
    have hdr := (Below.refl Z.heap.size Z).drew
    have ho0 := ho.below hdr
    have hst0 := hst.keep hdr
    have hs0 := hs.keep hdr
    have ht0 := stab_blk _ _ _ _ ht hdr
    have hF0 : FrS b4 (.slice (some z1) n c1) (z1.add (k * 3)) f Z.drew := hF.below hdr (by have := hs.blk.2; exact this) (by have := hs.blk.2; omega)
    have hB0 : Below w.heap.size w Z.drew := hB.drew
    have hb4 : b4 < Z.drew.heap.size := hs0.blk.2
    have hstep := hstep.out
    clear x5
    refine wp_region_held_drew (S := (fun W => FrS b4 (.slice (some z1) n c1) (z1.add (k * 3)) f W)) (by kernel_rfl) (by exact hF0) ?_
    intro hHeld
    generalize Z.drew = w0 at *
    obtain ⟨v2, W2, hap, ho2, hg2⟩ := OwnR.push fr_ok ho0 (show b4 + 1 ≤ w0.heap.size from hb4) f (frc f).toArray rfl 101 (by rw [List.length_take]; omega)
    have hb2 := ho0.grew_below (show b4 + 1 ≤ w0.heap.size from hb4) hg2
    have hbA := alloc_below w0 (.cells (frc f).toArray 101)
    have hstA := hst0.keep hbA
    have hFA : FrS b4 (.slice (some z1) n c1) (z1.add (k * 3)) f (w0.alloc (.cells (frc f).toArray 101)) := hF0.below hbA hb4 (by omega)
    have hF2 := hF0.below hb2 (Nat.lt_succ_self _) (by omega)
    have hst2 : PrAt b3 (.slice ba nb bc) c v W2 := ⟨h4, blk_keepB hst0.blk hb2 (by omega)⟩
    have hs2 : StAt b4 c (.slice (some z1) n c1) W2 := ⟨h4, blk_keepB hs0.blk hb2 (Nat.lt_succ_self _)⟩
    have ht2 := blk_keepB ht0 hb2 (by omega)
    have hB2 := hB0.trans (hb2.mono (by omega))
    obtain ⟨a2, cap2, hv2, -, -, -⟩ := ho2.slice frc_len
    refine tkA 0 ?_
    refine tkA 1 ?_
    refine tkA 3 ?_
    refine tkB 4 (y := yields_cellI (by rfl) _ rfl ⟨b4, 16, none⟩ rfl (.slice (some z1) n c1) (fun _ q => FrS.s q) crs_load) (h := ?_)
    refine tkA 5 ?_
    refine tkA 6 ?_
    refine tkA 7 ?_
    refine tkB 8 (y := yields_cellI (by rfl) _ rfl (z1.add (k * 3)) rfl (.int .i64 f.s) (fun _ q => FrS.c0 q) intI_load) (h := ?_)
    refine tkA 9 ?_
    refine tkB 10 (y := yields_cellI (by rfl) _ rfl ⟨b4, 16, none⟩ rfl (.slice (some z1) n c1) (fun _ q => FrS.s q) crs_load) (h := ?_)
    refine tkA 11 ?_
    refine tkA 12 ?_
    refine tkA 13 ?_
    refine tkB 14 (y := yields_cellI (by rfl) _ rfl ⟨(z1.add (k * 3)).block, (z1.add (k * 3)).off + 1, none⟩ rfl (.int .i64 f.f) (fun _ q => FrS.c1 q) intI_load) (h := ?_)
    refine tkA 15 ?_
    refine tkB 16 (y := yields_cellI (by rfl) _ rfl ⟨b4, 16, none⟩ rfl (.slice (some z1) n c1) (fun _ q => FrS.s q) crs_load) (h := ?_)
    refine tkA 17 ?_
    refine tkA 18 ?_
    refine tkA 19 ?_
    refine tkB 20 (y := yields_cellI (by rfl) _ rfl ⟨(z1.add (k * 3)).block, (z1.add (k * 3)).off + 2, none⟩ rfl (.int .i64 f.r) (fun _ q => FrS.c2 q) intI_load) (h := ?_)
    refine tkA 21 ?_
    refine tkR (rs := [2, 22]) ?_
    refine tkC (fun K hK => ?_) ?_
    · skip
      refine step_oneJ rfl _ rfl ⟨b3, 17, none⟩ rfl v hst0.stk frs_load ?_
      (try simp only [Act.put, zsA, zsB, zsC])
      refine hK.out _ _ (hF0) ?_
      clear hHeld hK
      intro hHeld
      (try simp only [Act.put, zsA, zsB, zsC])
      refine tkR (rs := [22]) ?_
      refine tkC (fun K hK => ?_) AllReadyH.nil
      refine step_build1 fr_ok (by decide) rfl _ rfl (frc f) rfl rfl ?_
      (try simp only [Act.put, zsA, zsB, zsC])
      refine hK.out _ _ (hFA) ?_
      clear hHeld hK
      intro hHeld
      (try simp only [Act.put, zsA, zsB, zsC])
      refine tkR (rs := [23]) ?_
      refine tkC (fun K hK => ?_) AllReadyH.nil
      refine step_append rfl _ _ rfl rfl rfl rfl hap ?_
      (try simp only [Act.put, zsA, zsB, zsC])
      refine hK.out _ _ (hF2) ?_
      clear hHeld hK
      intro hHeld
      clear hap
      (try simp only [Act.put, zsA, zsB, zsC])
      refine tkA 24 ?_
      refine tkA 25 ?_
      refine tkR (rs := [26]) ?_
      refine tkC (fun K hK => ?_) AllReadyH.nil
      have hfz := (hst2.blk.1 17 _ (show (stCs c v)[16]? = some v from st_stk h4)).2
      have hst3 := hst2.setStk v2
      have ho3 := ho2.keep (w' := W2.setCell ⟨b3, 17, none⟩ v2) (fun q hq => heap_setCell_other _ ⟨b3, 17, none⟩ q _ (by have := (ho2.lt hq).1; show q ≠ b3; omega))
      rw [← hstep] at ho3
      have hfs : StAt b4 c (.slice (some z1) n c1) (W2.setCell ⟨b3, 17, none⟩ v2) := ⟨h4, blk_setO hs2.blk (by omega) 17 v2⟩
      have hft := blk_setO ht2 (g := b3) (by omega) 17 v2
      have hB3 := hB2.setCell (p := ⟨b3, 17, none⟩) (by show w.heap.size ≤ b3; omega) v2
      have hF3 := hF2.set (g := b3) (by omega) (by omega) 17 v2
      refine step_storeJ rfl _ _ rfl ⟨b3, 17, none⟩ rfl v2 rfl _ hst2.stk hfz hv2 ?_
      (try simp only [Act.put, zsA, zsB, zsC])
      refine hK.out _ _ (hF3) ?_
      clear hHeld hK
      intro hHeld
      (try simp only [Act.put, zsA, zsB, zsC])
      refine wpAnyH_done (by kernel_rfl) ?_ _
      clear hv2
      go_wp2_with fail
      exact ⟨⟨k + 1, v2, by omega, by simp, hfs, hft, hst3, ho3, hB3⟩, by simp [Go.RowKit.intOf]; omega⟩
    refine tkC (fun K hK => ?_) AllReadyH.nil
    refine step_build1 fr_ok (by decide) rfl _ rfl (frc f) rfl rfl ?_
    (try simp only [Act.put, zsA, zsB, zsC])
    refine hK.out _ _ (hFA) ?_
    clear hHeld hK
    intro hHeld
    (try simp only [Act.put, zsA, zsB, zsC])
    refine tkR (rs := [2]) ?_
    refine tkC (fun K hK => ?_) AllReadyH.nil
    refine step_oneJ rfl _ rfl ⟨b3, 17, none⟩ rfl v hstA.stk frs_load ?_
    (try simp only [Act.put, zsA, zsB, zsC])
    refine hK.out _ _ (hFA) ?_
    clear hHeld hK
    intro hHeld
    (try simp only [Act.put, zsA, zsB, zsC])
    refine tkR (rs := [23]) ?_
    refine tkC (fun K hK => ?_) AllReadyH.nil
    refine step_append rfl _ _ rfl rfl rfl rfl hap ?_
    (try simp only [Act.put, zsA, zsB, zsC])
    refine hK.out _ _ (hF2) ?_
    clear hHeld hK
    intro hHeld
    clear hap
    (try simp only [Act.put, zsA, zsB, zsC])
    refine tkA 24 ?_
    refine tkA 25 ?_
    refine tkR (rs := [26]) ?_
    refine tkC (fun K hK => ?_) AllReadyH.nil
    have hfz := (hst2.blk.1 17 _ (show (stCs c v)[16]? = some v from st_stk h4)).2
    have hst3 := hst2.setStk v2
    have ho3 := ho2.keep (w' := W2.setCell ⟨b3, 17, none⟩ v2) (fun q hq => heap_setCell_other _ ⟨b3, 17, none⟩ q _ (by have := (ho2.lt hq).1; show q ≠ b3; omega))
    rw [← hstep] at ho3
    have hfs : StAt b4 c (.slice (some z1) n c1) (W2.setCell ⟨b3, 17, none⟩ v2) := ⟨h4, blk_setO hs2.blk (by omega) 17 v2⟩
    have hft := blk_setO ht2 (g := b3) (by omega) 17 v2
    have hB3 := hB2.setCell (p := ⟨b3, 17, none⟩) (by show w.heap.size ≤ b3; omega) v2
    have hF3 := hF2.set (g := b3) (by omega) (by omega) 17 v2
    refine step_storeJ rfl _ _ rfl ⟨b3, 17, none⟩ rfl v2 rfl _ hst2.stk hfz hv2 ?_
    (try simp only [Act.put, zsA, zsB, zsC])
    refine hK.out _ _ (hF3) ?_
    clear hHeld hK
    intro hHeld
    (try simp only [Act.put, zsA, zsB, zsC])
    refine wpAnyH_done (by kernel_rfl) ?_ _
    clear hv2
    go_wp2_with fail
    exact ⟨⟨k + 1, v2, by omega, by simp, hfs, hft, hst3, ho3, hB3⟩, by simp [Go.RowKit.intOf]; omega⟩
  · obtain rfl : k = n := by omega
    have i1 : ¬ (k : Int) < (k : Int) := by omega
    rw [List.take_of_length_le (by rw [hnn.out]; exact Nat.le_refl _)] at ho
    obtain ⟨W3, hW3, hth3, ht3, hk3⟩ := put_any ht (ds := prL (.slice ba nb bc) (stCs c v)) (by show (stCs zeroC nilS).length + 1 = (stCs c v).length + 1; rw [st_len h4]; rfl) (by simp)
    have hB3 := hk3 _ _ (Nat.le_succ _) hB
    have hr := hst.blk.range
    have hr3 := ht3.range
    have hv1 : v.oneCell' = true := by obtain ⟨a2, cap2, rfl, -⟩ := ho.slice frc_len; rfl
    have hone : ∀ x ∈ prL (.slice ba nb bc) (stCs c v), x.oneCell' = true := fun x hx => (List.mem_cons.1 hx).elim (fun q => by rw [q]; rfl) (fun q => st_one c v hv1 x q)
    have hlen : (prL (.slice ba nb bc) (stCs c v)).length = 19 := by show (stCs c v).length + 1 = 19; rw [st_len h4]
    have ho3 : OwnR 101 3 frc W3 w.heap.size v c.st := by
      rw [← hW3]
      exact (ho.setAll (g := w.heap.size + 1) (fun q => by have := (ho.lt q).1; omega) _).lower (by omega)
    obtain ⟨X2, hX⟩ : ∃ X2, prL (.slice ba nb bc) (stCs c v) = X2 := ⟨_, rfl⟩
    rw [hX] at hW3 hth3 hr hr3 hone hlen
    have hfin : Aside (prL (.slice ba nb bc) (stCs c v) = X2) := hX
    have hszX : (Tryz.prog.info? 57).map (·.size) = some X2.length := by rw [hlen]; exact hszQ
    clear hs hst ht ht3 hk3 hB hX hlen ho hv1
    go_wp2_with (first | (refine wpList_load_row rfl _ rfl b3 rfl X2 hr hundQ rfl hszX ?_) | (refine wpList_store_row rfl _ _ rfl (w.heap.size + 1) rfl X2 rfl hth3 hszX hone hW3 ?_) | fail)
    refine bodyPost_ret (v := .agg X2.toArray) (results_row1 rfl _ _ (w.heap.size + 1) rfl X2 hr3 hundQ rfl hszX) rfl ?_
    exact ⟨v, by rw [hfin.out], ho3, hB3⟩
end Go.Proofs.YtidihdiffiffmaaGreatDoor
namespace Go.Proofs.YtidihdiffiffmaaGreatDoor
open Go.RowKit
set_option maxRecDepth 8000
set_option linter.unusedSimpArgs false
set_option linter.unusedVariables false
def spB : List ByteArray := [pS 0 0, pS 0 1]
theorem sp0 : pS 0 0 = ⟨#[47, 108, 48, 47, 112, 48]⟩ := by decide +kernel
theorem sp1 : pS 0 1 = ⟨#[47, 108, 48, 47, 112, 49]⟩ := by decide +kernel
theorem sp_sz : ∀ p ∈ spB, p.size ≤ 1000 := by
  intro p hp
  unfold spB at hp
  rw [sp0, sp1] at hp
  simp at hp
  rcases hp with rfl | rfl <;> decide
theorem find_in {l : List PN} {p : ByteArray} {d : PN} (h : findP l p = some d) : d ∈ l := List.mem_of_find?_eq_some h
theorem inv_GL {l : List PN} {L : List Nod} (hn : namesP l = L) (hI : InvP L) {d : PN} (hd : d ∈ l) : GL d.n.label := (nodC_zero.1 (hI.tr.ok d.n (by rw [← hn]; exact List.mem_map.2 ⟨d, hd, rfl⟩))).2.1
set_option maxRecDepth 20000 in
set_option maxHeartbeats 16000000 in
theorem procSplits_walk (ta : Option Addr) (ct : Nat) (ts : List Lab) (pa : Option Addr) (pc : Nat) (ps : List PPg) (ra : Option Addr) (rc : Nat) (rs : List Rg) (n : Int) (hpc : ps.length ≤ pc) (hpl : (ps.length : Int) ≤ 9223372036854775807) (w : World) (hV : MaxV w) (hlr : RowAt 4 lrow w ta ts) (hps : RowAt 1 pgcl w pa ps) (hpA : ∀ x ∈ ps, x.At w) (hrsR : RowAt 4 rgcl w ra rs) :
    Calls Tryz.prog 6 #[.slice ta ts.length ct, .slice pa ps.length pc, .slice ra rs.length rc, .int .i64 n] w fun e w' => e = .returned (.bool true) ∧ Below w.heap.size w w' := by
  have hundM := Tryz.underlying52
  have hundP := Tryz.underlying47
  have hundL := Tryz.underlying30
  have hszP : (Tryz.prog.info? 47).map (·.size) = some 19 := by kernel_rfl
  have hszN : (Tryz.prog.info? 36).map (·.size) = some 16 := by kernel_rfl
  obtain ⟨L, hL⟩ : ∃ L, madeN ts (([] : List PM).map (·.m)) (ps.map (·.is)) [] rs = L := ⟨_, rfl⟩
  have hgood := made_good ts fit_nil (ps.map (·.is)) [] rs
  rw [hL] at hgood
  obtain ⟨hIL, hLn⟩ := hgood
  have km := fun (W : World) (h : Below w.heap.size w W) => pmade_any ta ct ts none 0 [] pa pc ps none 0 [] ra rc rs fit_nil hpc hpl W (hlr.below (fun _ => rfl) h) (rowM_nil _) (hps.below pg_len1 h) (fun x hx => ⟨(hpA x hx).1.below in_okW.len h, (hpA x hx).2⟩) (icell_nil _) (hrsR.below rg_len h)
  simp only [hL] at km
  obtain ⟨nt, hnt⟩ : ∃ n, ts.length = n := ⟨_, rfl⟩
  obtain ⟨np, hnp⟩ : ∃ n, ps.length = n := ⟨_, rfl⟩
  obtain ⟨nr, hnr⟩ : ∃ n, rs.length = n := ⟨_, rfl⟩
  simp only [hnt, hnp, hnr] at km ⊢
  replace km : ∀ W, Below w.heap.size w W → Calls Tryz.prog 10 #[.slice ta nt ct, .slice none 0 0, .slice pa np pc, .slice none 0 0, .slice ra nr rc] W (PutR L W) := km
  clear hlr hps hpA hrsR hnt hnp hnr hpc hpl hL
  obtain ⟨f, hf⟩ : ∃ f : Nat, n % 60 = (f : Int) := ⟨(n % 60).toNat, by have := Int.emod_nonneg n (by decide : (60 : Int) ≠ 0); omega⟩
  have hf60 : f < 60 := by have := Int.emod_lt_of_pos n (by decide : (0 : Int) < 60); omega
  have kw := fun W => w17_any n 60 (by decide) (by decide) W
  rw [hf] at kw
  clear hf
  go_enter Tryz.func6, Tryz.ntmps6
  go_wp2_with fail
  refine (lknown_any w hV).mono ?_
  rintro e W0 ⟨rfl, hB0⟩
  have km0 := km W0 hB0
  clear km
  go_wp2_with fail
  refine km0.mono ?_
  rintro e W1 ⟨l, a1, c1, rfl, hr1, hn1, hb1⟩
  have hB1 := Below.then hB0 hb1
  have hl29 : l.length ≤ 29 := by
    have h1 : (namesP l).length = l.length := by simp [namesP]
    rw [← h1, hn1]
    exact hLn
  have hF : FineL l := fine_of hn1 hIL (by omega)
  have hI : InvP (namesP l) := by rw [hn1]; exact hIL
  have kf := rfindT_any a1 c1 l ⟨#[47, 108, 48]⟩ (by omega) W1 hr1
  have kmk := fun (t : Lab) (ba : Option Addr) (hG : GL t) (W : World) hb hR (hv : MaxV W) => pmake_any a1 c1 l kaS t ba 2 spB hF hG (by decide) sp_sz W (hr1.below hb) hR hv
  have hGd : ∀ d, findP l ⟨#[47, 108, 48]⟩ = some d → GL d.n.label ∧ 0 < l.length := fun d hd => ⟨inv_GL hn1 hIL (find_in hd), List.length_pos_of_mem (find_in hd)⟩
  clear km0 hB0 hb1
  rw [hn1] at kmk
  obtain ⟨N, hN⟩ : ∃ N, l.length = N := ⟨_, rfl⟩
  have krun := fun (t : Lab) (ba : Option Addr) (bc : Nat) (hG : GL t) (W : World) hb hR (hv : MaxV W) => prunA_any a1 c1 l kaS t ba bc spB newC nilS f (runP kaS t spB f L newC) hF hI hG (by decide) sp_sz newC_ok rfl (by omega) (by rw [hn1]) W (hr1.below hb) hR (SV.nil _) hv
  simp only [hN] at kf kmk krun hGd ⊢
  obtain ⟨o, ho⟩ : ∃ o, findP l ⟨#[47, 108, 48]⟩ = o := ⟨_, rfl⟩
  rw [ho] at kf hGd
  clear ho
  replace hN : Aside (l.length = N) := hN
  replace hl29 : Aside (l.length ≤ 29) := hl29
  go_wp2_with fail
  refine kf.mono ?_
  rintro e W2 ⟨rfl, hb2⟩
  clear kf
  obtain ⟨d, hd⟩ : ∃ d, o.getD zeroP = d := ⟨_, rfl⟩
  rw [show foundCs o = d.cs from by unfold foundCs; rw [hd]]
  obtain ⟨W3, hW3, hth3, hbd, hb3⟩ := put_new W2 ZNP 36 d.cs (by rw [pn_len]; rfl) (by rw [pn_len]; decide)
  have hsz3 : (Tryz.prog.info? 36).map (·.size) = some d.cs.length := by rw [pn_len]; exact hszN
  have hon3 := pn_one d
  have hb13 := Below.then hb2 hb3
  have hB3 := Below.then hB1 hb13
  have hbd3 := hbd
  go_upto_region 5 with (first | (refine wpList_store_row rfl _ _ rfl W2.heap.size rfl d.cs rfl hth3 hsz3 hon3 hW3 ?_) | fail)
  clear hth3 hW3 hon3 hsz3 hb2 hb3
  generalize W2.heap.size = gd at *
  cases o with
  | none =>
    clear krun kmk
    go_wp2_with fail
    go_ret
    exact ⟨rfl, hB3⟩
  | some d' =>
  obtain rfl : d' = d := hd
  obtain ⟨hG, hN0⟩ := hGd d' rfl
  have hcl := pn_labAt hbd
  clear hGd hbd hbd3
  obtain ⟨t, ht⟩ : ∃ t, d'.n.label = t := ⟨_, rfl⟩
  rw [ht] at hG hcl
  clear ht
  have hszL : (Tryz.prog.info? 30).map (·.size) = some (lab4 t).length := by show _ = some 4; kernel_rfl
  have hsm : (Tryz.prog.info? 52).map (·.size) = some (sbL kaS t).length := by show _ = some 5; kernel_rfl
  obtain ⟨W6, hW6, hth6, hsb, hb6⟩ := put_new W3 zSB 52 (sbL kaS t) rfl (by show 0 < 5; decide)
  have hb16 := Below.then hb13 hb6
  have hB6 := Below.then hB3 hb6
  have hon6 := sbL_one kaS t
  go_upto_region 8 with (first | (refine wpList_load_at rfl _ rfl ⟨gd, 2, none⟩ rfl (lab4 t) hcl hundL rfl hszL ?_) | (refine wpList_store_row rfl _ _ rfl W3.heap.size rfl (sbL kaS t) rfl hth6 hsm hon6 hW6 ?_) | fail)
  clear hth6 hW6 hb6 hon6 hb13 hB3 hcl
  generalize W3.heap.size = gs at *
  have hrs := hsb.range
  have hrp := row_listP scl_ok.len W6 spB #[.string (pS 0 0), .string (pS 0 1)] rfl 9
  rw [sp0, sp1] at hrp
  have hb7 := alloc_below W6 (.cells #[.string ⟨#[47, 108, 48, 47, 112, 48]⟩, .string ⟨#[47, 108, 48, 47, 112, 49]⟩] 9)
  have hb17 := Below.then hb16 hb7
  have hB7 := Below.then hB6 hb7
  have hsb7 := stab_blk _ _ _ _ hsb hb7
  have km := kmk t (some ⟨W6.heap.size, 0, none⟩) hG _ hb17 hrp (hV.below hB7)
  obtain ⟨E, hE⟩ : ∃ E, makeE L kaS t spB = E := ⟨_, rfl⟩
  rw [hE] at km
  clear kmk hrp hE
  replace km : Calls Tryz.prog 12 #[.slice a1 N c1, .agg (sbL kaS t).toArray, .slice (some ⟨W6.heap.size, 0, none⟩) 2 2] (W6.alloc (.cells #[.string ⟨#[47, 108, 48, 47, 112, 48]⟩, .string ⟨#[47, 108, 48, 47, 112, 49]⟩] 9)) (MakeP spB E (W6.alloc (.cells #[.string ⟨#[47, 108, 48, 47, 112, 48]⟩, .string ⟨#[47, 108, 48, 47, 112, 49]⟩] 9))) := km
  go_wp2_with (first | (refine wpList_load_row rfl _ rfl gs rfl (sbL kaS t) hrs hundM rfl hsm ?_) | fail)
  generalize W6.alloc (.cells #[.string ⟨#[47, 108, 48, 47, 112, 48]⟩, .string ⟨#[47, 108, 48, 47, 112, 49]⟩] 9) = W7 at *
  refine km.mono ?_
  by_cases hE0 : E = 0
  case neg =>
    rintro e W8 ⟨hb8, h0, -⟩
    obtain rfl := h0 hE0
    obtain ⟨W9, hW9, hth9, hpr, hb9⟩ := put_new W8 zPC 47 (prL nilS (stCs zeroC nilS)) rfl (by simp)
    have hsz9 : (Tryz.prog.info? 47).map (·.size) = some (prL nilS (stCs zeroC nilS)).length := hszP
    have hon9 := pr_oneL nilS zeroC nilS rfl rfl
    have hfin := Below.then hB7 (Below.then hb8 hb9)
    clear km h0 krun
    go_upto_region 9 with (first | (refine wpList_store_row rfl _ _ rfl W8.heap.size rfl (prL nilS (stCs zeroC nilS)) rfl hth9 hsz9 hon9 hW9 ?_) | fail)
    clear hth9 hW9 hon9
    go_wp2_with fail
    go_ret
    exact ⟨rfl, hfin⟩
  case pos =>
  subst hE0
  rintro e W8 ⟨hb8, -, h0⟩
  obtain ⟨bv, rfl, hob⟩ := h0 rfl
  clear km h0 hrs
  obtain ⟨ba, bc, rfl, -, -, hrb⟩ := hob.slice scl_ok.len
  obtain ⟨W9, hW9, hth9, hpr, hb9⟩ := put_new W8 zPC 47 (prL (.slice ba 2 bc) (stCs newC nilS)) rfl (by simp)
  have hb89 := Below.then hb8 hb9
  have hb19 := Below.then hb17 hb89
  have hB9 := Below.then hB7 hb89
  have hsz9 : (Tryz.prog.info? 47).map (·.size) = some (prL (.slice ba 2 bc) (stCs newC nilS)).length := hszP
  have hon9 := pr_oneL (.slice ba 2 bc) newC nilS rfl rfl
  have hsb8 := stab_blk _ _ _ _ hsb7 hb8
  have hsb9 := stab_blk _ _ _ _ hsb8 hb9
  have hr8 : ∀ X, Below W8.heap.size W8 X → RowN X a1 l := fun X h => (hr1.below (Below.then hb17 hb8)).below h
  have hrb8 : ∀ X, Below W8.heap.size W8 X → RowAt 1 scl X ba spB := fun X h => hrb.below scl_ok.len h
  have hgb9 := hb9
  have hgw : w.heap.size ≤ W8.heap.size := (Below.then hB7 hb8).size
  have hgs8 : gs < W8.heap.size := hsb8.2
  have kr := krun t ba bc hG W9 hb19 (hrb.below scl_ok.len hb9) (hV.below hB9)
  clear krun
  obtain ⟨R, hR⟩ : ∃ R, runP kaS t spB f L newC = R := ⟨_, rfl⟩
  have hRo : R.out.length ≤ f := by rw [← hR]; exact run_outlen f L newC
  rw [hR] at kr
  obtain ⟨X, hX⟩ : ∃ X, prL (.slice ba 2 bc) (stCs newC nilS) = X := ⟨_, rfl⟩
  replace kr : Calls Tryz.prog 17 #[.slice a1 N c1, .agg (sbL kaS t).toArray, .agg X.toArray, .int .i64 (f : Int)] W9 (RunP spB N R W9) := by rw [← hX]; exact kr
  rw [hX] at hW9 hth9 hpr hsz9 hon9
  have hXe : Aside (Value.agg (prL (.slice ba 2 bc) (stCs newC nilS)).toArray = .agg X.toArray) := by show _ = _; rw [hX]
  replace hX : Aside (prL (.slice ba 2 bc) (stCs newC nilS) = X) := hX
  replace hR : Aside (runP kaS t spB f L newC = R) := hR
  go_upto_region 9 with (first | (refine wpList_store_row rfl _ _ rfl W8.heap.size rfl X rfl hth9 hsz9 hon9 hW9 ?_) | (refine wpList_store_row rfl _ _ rfl W8.heap.size rfl X hXe.out hth9 hsz9 hon9 hW9 ?_) | fail)
  have hrs9 := hsb9.range
  have hrp9 := hpr.range
  clear hth9 hW9 hon9 hXe hob hsb hsb7 hb7 hb8 hb89 hB7 hB6 hB1 hb16 hb17 hb19 hsb8
  generalize W8.heap.size = gp at *
  go_upto_region 11 with fail
  go_wp2_with fail
  refine (kw W9).mono ?_
  rintro e W9' ⟨rfl, rfl⟩
  go_upto_region 12 with fail
  go_wp2_with (first | (refine wpList_load_row rfl _ rfl gs rfl (sbL kaS t) hrs9 hundM rfl hsm ?_) | (refine wpList_load_row rfl _ rfl gp rfl X hrp9 hundP rfl hsz9 ?_) | fail)
  refine kr.mono ?_
  rintro e W10 ⟨lA, BA, bvA, vA, tvA, rfl, hlA, hBA, hrA, hxA, hnA, hIA, hokA, hobA, hovA, hotA, hb10⟩
  obtain ⟨tA, tcA, rfl, -, -, htA⟩ := hotA.slice wd_okC.len
  obtain ⟨bA, bcA, rfl, -, -, hbbA⟩ := hobA.slice scl_ok.len
  have h4 := hokA.ps
  have hvA := (SV.own hovA).one
  obtain ⟨W11, hW11, hth11, hpA, hb11⟩ := put_new W10 zPC 47 (prL (.slice bA 2 bcA) (stCs R.c vA)) (by rw [pr_lenL h4]; rfl) (by simp)
  have hsz11 : (Tryz.prog.info? 47).map (·.size) = some (prL (.slice bA 2 bcA) (stCs R.c vA)).length := by rw [pr_lenL h4]; exact hszP
  have hon11 := pr_oneL (.slice bA 2 bcA) R.c vA rfl hvA
  have hgp9 : gp < W9'.heap.size := hpr.2
  have hb1011 := Below.then hb10 hb11
  have hB11 := Below.then hB9 hb1011
  have hbox := stab_blk _ _ _ _ hpr hb1011
  have hb811 : Below gp W8 W11 := hgb9.trans (hb1011.mono (by omega))
  have hg11 : W9'.heap.size ≤ W10.heap.size := hb10.size
  have hg12 : W10.heap.size < W11.heap.size := hpA.2
  obtain ⟨Y, hY⟩ : ∃ Y, prL (.slice bA 2 bcA) (stCs R.c vA) = Y := ⟨_, rfl⟩
  rw [hY] at hW11 hth11 hsz11 hon11 hpA
  have hYe : Aside (Value.agg (prL (.slice bA 2 bcA) (stCs R.c vA)).toArray = .agg Y.toArray) := by show _ = _; rw [hY]
  replace hY : Aside (prL (.slice bA 2 bcA) (stCs R.c vA) = Y) := hY
  have hK : Sty gp none W11 (SpK gs W10.heap.size t (some ⟨BA, 0, none⟩) lA Y bA spB vA R.c.st tA R.out) := fun V hV1 =>
    ⟨Sty.blk (g := none) (stab_blk _ _ _ _ hsb9 hb1011) (by omega) (by simp) V hV1, ((Sty.nodes (g := none) hrA hxA (rowN_lt hrA (by omega)) (by omega) (by simp)).then (One.of hb11)) V hV1,
     Sty.blk (g := none) hpA (by omega) (by simp) V hV1, own_rowS scl_ok.len (((Sty.own (g := none) hobA hgp9 (by simp)).then (One.of hb11)) V hV1), SV.own (((Sty.own (g := none) hovA hgp9 (by simp)).then (One.of hb11)) V hV1), own_rowS wd_okC.len (((Sty.own (g := none) hotA hgp9 (by simp)).then (One.of hb11)) V hV1)⟩
  generalize hKPe : SpK gs W10.heap.size t (some ⟨BA, 0, none⟩) lA Y bA spB vA R.c.st tA R.out = KP at hK
  replace hKPe : Aside (SpK gs W10.heap.size t (some ⟨BA, 0, none⟩) lA Y bA spB vA R.c.st tA R.out = KP) := hKPe
  have hI0 : SpI w W11.heap.size gp N spB KP ⟨L, newC, [], false, 0⟩ W11 l a1 ba bc nilS (.slice none 0 0) := by
    refine ⟨Sty.low (B := gp) (fun V h => hr8 V (hb811.trans h)) (by omega) (Nat.le_refl _) (by simp [Value.ownBlock]), hn1, hN.out, ?_, Sty.low (B := gp) (fun V h => hrb8 V (hb811.trans h)) (by omega) (Nat.le_refl _) (by simp [Value.ownBlock]), fun V _ => SV.nil V, OwnR.nil _ _ _ _ _, ?_, hB11, Nat.le_refl _, by omega, hgw⟩
    · rw [← hX.out] at hbox
      exact hbox
    · exact fun V h => hK V h
  generalize hb0 : W11.heap.size = b0 at hI0
  replace hb0 : Aside (W11.heap.size = b0) := hb0
  clear hr8 hrb8 hgb9 hb811 hK hbox hb1011 hrA hxA hobA hovA hotA htA hbbA kr hrs9 hrp9 hpr hsb9 hb10 hgs8 hX hgp9 hg11 hg12 hr1
  go_upto_region 13 with (first | (refine wpList_store_row rfl _ _ rfl W10.heap.size rfl Y rfl hth11 hsz11 hon11 hW11 ?_) | (refine wpList_store_row rfl _ _ rfl W10.heap.size rfl Y hYe.out hth11 hsz11 hon11 hW11 ?_) | fail)
  clear hth11 hW11 hon11 hb11
  generalize W10.heap.size = gb at *
  go_upto_region 16 with fail
  go_wp2_with fail
  go_loopw [9, 20, 21, 22, 23] (fun t9 t20 t21 t22 t23 wr => ∃ (k : Nat) (lk : List PN) (a : Option Addr) (c : Nat) (ba : Option Addr) (bc : Nat) (v tv : Value), k ≤ f ∧ t9 = .slice a N c ∧ tv = t20 ∧ t21 = .bool (runP kaS t spB k L newC).over ∧ t22 = .int .i64 (runP kaS t spB k L newC).e ∧ t23 = .int .i64 (k : Int) ∧ SpI w b0 gp N spB KP (runP kaS t spB k L newC) wr lk a ba bc v tv) (fun _ _ _ _ t23 _ => f - (Go.RowKit.intOf t23).toNat)
  case atStart => exact ⟨0, l, a1, c1, ba, bc, nilS, _, by omega, rfl, rfl, rfl, rfl, rfl, hI0⟩
  case round =>
  clear hI0
  obtain ⟨k, lk, a, c, ba, bc, v, tv, hk, rfl, rfl, rfl, rfl, rfl, hI⟩ := hrel
  have hok := run_ok (u := kaS) (t := t) (bs := spB) k hIL newC_ok
  have hnx := fun (h : (runP kaS t spB k L newC).over = false) => run_next (u := kaS) (t := t) (bs := spB) h 1
  have hhl := fun (h : (runP kaS t spB k L newC).over = false) => run_hl (u := kaS) (t := t) (bs := spB) (n := k) (L := L) (c := newC) rfl h
  have hst := fun (h : (runP kaS t spB k L newC).over = true) => run_stop (u := kaS) (t := t) (bs := spB) h hk
  have hol := run_outlen (u := kaS) (t := t) (bs := spB) k L newC
  obtain ⟨r, hr⟩ : ∃ r, runP kaS t spB k L newC = r := ⟨_, rfl⟩
  rw [hr] at hI hok hol
  simp only [hr] at hnx hhl hst ⊢
  obtain ⟨-, hokI, hokc⟩ := hok
  obtain ⟨ov, hov⟩ : ∃ ov, r.over = ov := ⟨_, rfl⟩
  rw [hov]
  replace hr : Aside (runP kaS t spB k L newC = r) := hr
  go_upto_region 17 with fail
  go_cut [70] from 64 to 69 (fun s70 wd => s70 = .bool (decide (k < f) && !ov) ∧ wd = wr)
  · skip
    by_cases hkf : k < f
    · have i1 : (k : Int) < (f : Int) := by omega
      cases ov
      · go_wp2_with fail
        go_meet
        exact ⟨by simp [hkf], rfl⟩
      · go_wp2_with fail
        go_meet
        exact ⟨by simp [hkf], rfl⟩
    · have i1 : ¬ (k : Int) < (f : Int) := by omega
      go_wp2_with fail
      go_meet
      exact ⟨by simp [hkf], rfl⟩
  case rest =>
  obtain ⟨rfl, rfl⟩ := hcut
  by_cases hgo : k < f ∧ ov = false
  · obtain ⟨hkf, rfl⟩ := hgo
    have hr1e := hnx hov
    have hhl1 := hhl hov
    rw [show (decide (k < f) && !false) = true by simp [hkf]]
    obtain ⟨r1, hr1⟩ : ∃ r1, runP kaS t spB 1 r.l r.c = r1 := ⟨_, rfl⟩
    rw [hr1] at hr1e
    have ho1l : r1.out.length ≤ 1 := by rw [← hr1]; exact run_outlen 1 r.l r.c
    have kr := prunA_any a c lk kaS t ba bc spB r.c v 1 r1 (fine_of hI.nm hokI (by have := hI.len; have := hl29.out; have := hN.out; omega)) (by rw [hI.nm]; exact hokI) hG (by decide) sp_sz hokc hhl1 (by decide) (by rw [hI.nm]; exact hr1) wc hI.row.now hI.bnd.now hI.sv.now (hV.below hI.bl)
    rw [hI.len] at kr
    have hbx := hI.box
    have hsv := (hI.sv.now).one
    have hks := hI.keep.now
    rw [← hKPe.out] at hks
    have hrs := hks.s.range
    have hszk : (Tryz.prog.info? 47).map (·.size) = some (prL (.slice ba 2 bc) (stCs r.c v)).length := by rw [pr_lenL hokc.ps]; exact hszP
    obtain ⟨X, hX⟩ : ∃ X, prL (.slice ba 2 bc) (stCs r.c v) = X := ⟨_, rfl⟩
    replace hbx : BlkL gp X wc := by rw [← hX]; exact hbx
    have hrp := hbx.range
    rw [hX] at hszk
    replace kr : Calls Tryz.prog 17 #[.slice a N c, .agg (sbL kaS t).toArray, .agg X.toArray, .int .i64 1] wc (RunP spB N r1 wc) := by rw [← hX]; exact kr
    clear hX hbx hks hnx hhl hst hhl1 hr1
    go_upto_region 20 with fail
    go_wp2_with (first | (refine wpList_load_row rfl _ rfl gs rfl (sbL kaS t) hrs hundM rfl hsm ?_) | (refine wpList_load_row rfl _ rfl gp rfl X hrp hundP rfl hszk ?_) | fail)
    refine kr.mono ?_
    rintro e W1 ⟨l1, B1, bv1, v1, tv1, rfl, hl1, hB1, hr1, hx1, hn1, -, hok1, ho1, hv1, ht1, hb1⟩
    obtain ⟨ta3, tc3, rfl, -, -, -⟩ := ht1.slice wd_okC.len
    obtain ⟨ba3, bc3, rfl, -, -, -⟩ := ho1.slice scl_ok.len
    have hone := (SV.own hv1).one
    obtain ⟨W2, hW2, hth2, v2, W3, hap, hI3⟩ := hI.step hb1 hN0 hl1 hB1 hr1 hx1 hn1 hokc.ps hok1.ps ho1 hv1 ht1 (by omega) (by omega)
    have hsz2 : (Tryz.prog.info? 47).map (·.size) = some (prL (.slice ba3 2 bc3) (stCs r1.c v1)).length := by rw [pr_lenL hok1.ps]; exact hszP
    have hon2 := pr_oneL (.slice ba3 2 bc3) r1.c v1 rfl hone
    replace hth2 : W1.there gp 0 (prL (.slice ba3 2 bc3) (stCs r1.c v1)).length := hth2
    replace hW2 : W1.setCells gp 0 (prL (.slice ba3 2 bc3) (stCs r1.c v1)) = W2 := hW2
    obtain ⟨Z, hZ⟩ : ∃ Z, prL (.slice ba3 2 bc3) (stCs r1.c v1) = Z := ⟨_, rfl⟩
    rw [hZ] at hth2 hW2 hsz2 hon2
    have hZe : Aside (Value.agg (prL (.slice ba3 2 bc3) (stCs r1.c v1)).toArray = .agg Z.toArray) := by show _ = _; rw [hZ]
    have hap2 := @appW _ _ _ _ _ _ (.tmp 83) (.tmp 84) hap
    have heq : runP kaS t spB (k + 1) L newC = ⟨r1.l, r1.c, r.out ++ r1.out, r1.over, r1.e⟩ := hr1e
    replace heq : Aside (runP kaS t spB (k + 1) L newC = ⟨r1.l, r1.c, r.out ++ r1.out, r1.over, r1.e⟩) := heq
    clear kr hr1 hx1 hn1 hok1 ho1 hv1 ht1 hb1 hZ hrs hrp hap hr1e hB1
    go_upto_region 21 with (first | (refine wpList_store_row rfl _ _ rfl gp rfl Z rfl hth2 hsz2 hon2 hW2 ?_) | (refine wpList_store_row rfl _ _ rfl gp rfl Z hZe.out hth2 hsz2 hon2 hW2 ?_) | fail)
    clear hth2 hW2 hon2 hZe
    go_wp2_with (first | (refine hap2 rfl rfl rfl rfl rfl ?_) | fail)
    refine ⟨⟨k + 1, l1, _, N, ba3, bc3, v1, v2, by omega, rfl, rfl, ?_, ?_, by simp, ?_⟩, by simp [Go.RowKit.intOf]; omega⟩
    · rw [heq.out]
    · rw [heq.out]
    · rw [heq.out]; exact hI3
  · have hrR : r = R := by
      rcases Decidable.not_and_iff_or_not.1 hgo with h | h
      · have : k = f := by omega
        rw [← hr.out, this, hR.out]
      · have h2 : r.over = true := by rw [hov]; simpa using h
        rw [← hst h2, hR.out]
    subst hrR
    subst hov
    rw [show (decide (k < f) && !r.over) = false by
      cases h : (decide (k < f) && !r.over) with
      | false => rfl
      | true => exact absurd (by simpa using h) hgo]
    clear hgo hnx hhl hst
    have hks := hI.keep.now
    rw [← hKPe.out] at hks
    obtain ⟨aS, cS, hvS, -, hrS⟩ := hI.sv.now
    obtain ⟨aT, cT, hvT, -, hrT⟩ := hks.sv
    subst hvS hvT
    have hbx := hI.box
    obtain ⟨tq, tqc, htq, -, -, hrq⟩ := hI.out.slice wd_okC.len
    subst htq
    have hrow := hI.row.now
    have hbnd := hI.bnd.now
    have hnmk := hI.nm
    have hlk := hI.len
    have hBw := hI.bl
    have hks1 := hks.a
    have hks2 := hks.bb
    have hks3 := hks.t
    have hks4 := hks.b
    obtain ⟨o, ho⟩ : ∃ o, r.out.length = o := ⟨_, rfl⟩
    have hst8 := hokc.st
    obtain ⟨X, hX⟩ : ∃ X, prL (.slice ba 2 bc) (stCs r.c (.slice aS r.c.st.length cS)) = X := ⟨_, rfl⟩
    replace hbx : BlkL gp X wc := by rw [← hX]; exact hbx
    have hszX : (Tryz.prog.info? 47).map (·.size) = some X.length := by rw [← hX, pr_lenL h4]; exact hszP
    clear hI hks hKPe hb0
    rw [ho]
    have ho60 : o ≤ 60 := by omega
    replace ho : Aside (r.out.length = o) := ho
    go_upto_region 22 with fail
    obtain ⟨Z, hZ⟩ : ∃ Z, wc = Z := ⟨_, rfl⟩
    rw [hZ] at hrS hrT hbx hrow hbnd hBw hks1 hks2 hks3 hks4 hrq ⊢
    clear hZ
    have ksame : ∀ W, Below Z.heap.size Z W → Calls Tryz.prog 19 #[.slice (some ⟨BA, 0, none⟩) N N, .slice a N c] W fun e w' => e = .returned (.bool true) ∧ Below W.heap.size W w' := fun W hW => by
      have k := sameT_any (some ⟨BA, 0, none⟩) a N c lA lk (by have := hl29.out; have := hN.out; omega) (by have := hl29.out; have := hN.out; omega) (inv_fits hnA hIA) W (hks1.below hW) (hrow.below hW)
      rw [hlA, hlk, show sameN (namesP lA) (namesP lk) = true from sameN_iff.2 (by rw [hnA, hnmk])] at k
      exact k
    have kst1 : ∀ W, Below Z.heap.size Z W → Calls Tryz.prog 15 #[.agg Y.toArray] W fun e w' => ∃ v, e = .returned (.agg (prL (.slice bA 2 bcA) (stCs r.c v)).toArray) ∧ OwnR 101 3 frc w' W.heap.size v r.c.st ∧ Below W.heap.size W w' := fun W hW => by
      have k := plstate_any bA 2 bcA r.c h4 aT cT W (by omega) (hrT.below frc_len hW)
      rw [hY.out] at k
      exact k
    have kst2 : ∀ W, Below Z.heap.size Z W → Calls Tryz.prog 15 #[.agg X.toArray] W fun e w' => ∃ v, e = .returned (.agg (prL (.slice ba 2 bc) (stCs r.c v)).toArray) ∧ OwnR 101 3 frc w' W.heap.size v r.c.st ∧ Below W.heap.size W w' := fun W hW => by
      have k := plstate_any ba 2 bc r.c h4 aS cS W (by omega) (hrS.below frc_len hW)
      rw [hX] at k
      exact k
    have ksm : ∀ W, Below Z.heap.size Z W → ∀ (x1 x2 : Option Addr) (y1 y2 : Nat), RowAt 3 frc W x1 r.c.st → RowAt 3 frc W x2 r.c.st → Calls Tryz.prog 14 #[.agg (prL (.slice bA 2 bcA) (stCs r.c (.slice x1 r.c.st.length y1))).toArray, .agg (prL (.slice ba 2 bc) (stCs r.c (.slice x2 r.c.st.length y2))).toArray] W fun e w' => e = .returned (.bool true) ∧ Below W.heap.size W w' :=
      fun W hW x1 x2 y1 y2 r1 r2 => plsame_any r.c h4 spB bA ba bcA bc x1 x2 y1 y2 W (by omega) (by decide) (hks2.below scl_ok.len hW) (hbnd.below scl_ok.len hW) r1 r2
    have hS0 : Below Z.heap.size Z Z.drew := (Below.refl _ _).drew
    replace hX : Aside (prL (.slice ba 2 bc) (stCs r.c (.slice aS r.c.st.length cS)) = X) := hX
    clear hrS hrT hrow hbnd hks1 hks2
    refine wp_region_held_drew (S := (fun W => Below Z.heap.size Z W)) (by kernel_rfl) (by exact hS0) ?_
    intro hHeld
    generalize Z.drew = w0 at *
    refine tkA 0 ?_
    refine tkA 1 ?_
    refine tkA 2 ?_
    refine tkA 3 ?_
    refine tkA 4 ?_
    refine tkA 5 ?_
    refine tkA 6 ?_
    refine tkA 7 ?_
    refine tkA 8 ?_
    refine tkA 9 ?_
    refine tkA 10 ?_
    refine tkA 11 ?_
    refine tkA 12 ?_
    refine tkA 13 ?_
    refine tkA 14 ?_
    refine tkA 15 ?_
    refine tkA 16 ?_
    refine tkA 17 ?_
    refine tkR (rs := [18]) ?_
    refine tkC (fun K hK => ?_) AllReadyH.nil
    go_simp
    go_at_call 19
    refine (ksame w0 hS0).mono ?_
    rintro e w1 ⟨rfl, hb⟩
    have hS1 := Below.then hS0 hb
    clear hb
    refine hK.out _ _ (by exact hS1) ?_
    clear hHeld hK
    intro hHeld
    (try simp only [Act.put, zsA, zsB, zsC])
    refine tkA 19 ?_
    refine tkA 20 ?_
    refine tkA 21 ?_
    refine tkB 22 (y := yields_row (by rfl) _ rfl gb rfl Y (fun _ q => BlkL.range (stab_blk _ _ _ _ hks4 q)) hundP rfl hsz11) (h := ?_)
    refine tkB 24 (y := yields_row (by rfl) _ rfl gp rfl X (fun _ q => BlkL.range (stab_blk _ _ _ _ hbx q)) hundP rfl hszX) (h := ?_)
    refine tkR (rs := [23]) ?_
    refine tkC (fun K hK => ?_) AllReadyH.nil
    go_simp
    go_at_call 15
    refine (kst1 w1 hS1).mono ?_
    rintro e w2 ⟨v1, rfl, ho1, hb⟩
    have hS2 := Below.then hS1 hb
    obtain ⟨x1, y1, rfl, -, -, hx1⟩ := ho1.slice frc_len
    clear ho1
    clear hb
    refine hK.out _ _ (by exact hS2) ?_
    clear hHeld hK
    intro hHeld
    (try simp only [Act.put, zsA, zsB, zsC])
    refine tkR (rs := [25]) ?_
    refine tkC (fun K hK => ?_) AllReadyH.nil
    go_simp
    go_at_call 15
    refine (kst2 w2 hS2).mono ?_
    rintro e w3 ⟨v2, rfl, ho2, hb⟩
    have hS3 := Below.then hS2 hb
    obtain ⟨x2, y2, rfl, -, -, hx2⟩ := ho2.slice frc_len
    clear ho2
    replace hx1 := hx1.below frc_len hb
    clear hb
    refine hK.out _ _ (by exact hS3) ?_
    clear hHeld hK
    intro hHeld
    (try simp only [Act.put, zsA, zsB, zsC])
    refine tkR (rs := [26]) ?_
    refine tkC (fun K hK => ?_) AllReadyH.nil
    go_simp
    go_at_call 14
    refine (ksm w3 hS3 x1 x2 y1 y2 hx1 hx2).mono ?_
    rintro e w4 ⟨rfl, hb⟩
    have hS4 := Below.then hS3 hb
    clear hx1 hx2
    clear hb
    refine hK.out _ _ (by exact hS4) ?_
    clear hHeld hK
    intro hHeld
    (try simp only [Act.put, zsA, zsB, zsC])
    refine tkA 27 ?_
    refine tkA 28 ?_
    refine wpAnyH_done (by kernel_rfl) ?_ _
    obtain ⟨U0, hU0⟩ : ∃ U, w4 = U := ⟨_, rfl⟩
    rw [hU0] at hS4 ⊢
    clear hU0 ksame kst1 kst2 ksm hS0 hS1 hS2 hS3
    go_wp2_with fail
    go_loopw [25] (fun t25 wr2 => ∃ i : Nat, i ≤ o ∧ t25 = .int .i64 (i : Int) ∧ Below Z.heap.size Z wr2) (fun t25 _ => o - (Go.RowKit.intOf t25).toNat)
    case atStart => exact ⟨0, by omega, rfl, hS4⟩
    case round =>
    obtain ⟨i, hi, rfl, hd⟩ := hrel
    by_cases hio : i < o
    · obtain ⟨x, hx⟩ : ∃ x, r.out[i]? = some x := ⟨_, List.getElem?_eq_getElem (by rw [ho.out]; exact hio)⟩
      obtain ⟨z1, rfl, -⟩ := hks3 i x hx
      obtain ⟨z2, rfl, -⟩ := hrq i x hx
      have g1 := (hks3.below wd_okC.len hd).at wd_okC.len hx
      have g2 := (hrq.below wd_okC.len hd).at wd_okC.len hx
      rw [Nat.mul_one] at g1 g2
      have e1 : wr.cell? (z1.add i) = some (.int .i64 x) := g1 0 _ rfl
      have e2 : wr.cell? (z2.add i) = some (.int .i64 x) := g2 0 _ rfl
      have i1 : (i : Int) < (o : Int) := by omega
      clear g1 g2 hx hS4
      go_upto_region 27 with fail
      obtain ⟨U, hU⟩ : ∃ U, wr = U := ⟨_, rfl⟩
      rw [hU] at e1 e2 hd ⊢
      clear hU
      have hS0 : Below U.heap.size U U.drew := (Below.refl _ _).drew
      refine wp_region_held_drew (S := (fun W => Below U.heap.size U W)) (by kernel_rfl) (by exact hS0) ?_
      intro hHeld
      generalize U.drew = w0 at *
      refine tkA 0 ?_
      refine tkA 1 ?_
      refine tkA 2 ?_
      refine tkB 3 (y := yields_cellI (by rfl) _ rfl (z1.add i) rfl (.int .i64 x) (fun _ q => (q.cell (World.block_lt_of_cell? _ _ e1)).trans e1) i64C_load) (h := ?_)
      refine tkA 4 ?_
      refine tkA 5 ?_
      refine tkA 6 ?_
      refine tkB 7 (y := yields_cellI (by rfl) _ rfl (z2.add i) rfl (.int .i64 x) (fun _ q => (q.cell (World.block_lt_of_cell? _ _ e2)).trans e2) i64C_load) (h := ?_)
      refine tkA 8 ?_
      refine wpAnyH_done (by kernel_rfl) ?_ _
      have hd2 := Below.then hd hS0
      go_wp2_with fail
      exact ⟨⟨i + 1, by omega, by simp, hd2⟩, by simp [Go.RowKit.intOf]; omega⟩
    · have i1 : ¬ (i : Int) < (o : Int) := by omega
      have hfin := Below.then hBw hd
      go_wp2_with fail
      go_ret
      exact ⟨rfl, hfin⟩
end Go.Proofs.YtidihdiffiffmaaGreatDoor
