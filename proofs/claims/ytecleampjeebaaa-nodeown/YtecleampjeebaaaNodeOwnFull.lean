/-
  THE WALK OF NodeOwn.
-/
import Derived.Test.YtecleampjeebaaaNodeLaw
import Derived.Test.YtecleampjeebaaaHeld
import Derived.Deep.CutBlock
namespace Go.Proofs.Ytecleampjeebaaa
open Go.RowKit
set_option linter.unusedSimpArgs false
set_option linter.unusedVariables false

/-- Another node, in a block of its own, that its bytes can say. -/
def Other (P : Nod) (gm : Nat) (W : World) : Prop := ∃ (M : Nod) (am : Option Addr) (cm : Nat) (wm : Option Addr) (dm : Nat), BlkL gm (nl M (.slice am M.acl.length cm) (.slice wm M.words.length dm)) W ∧ GrsAt W am M.acl ∧ WrdsAt W wm M.words ∧ M.Plain ∧ M ≠ P
theorem enc_inj {P M : Nod} (hP : P.Plain) (hM : M.Plain) (h : encN P = encN M) : P = M := by
  rw [← (nod_back P hP).1, ← (nod_back M hM).1, h]
theorem plain_more {n : Nod} : (0 ≤ (plainN n).label.s ∧ (plainN n).label.s ≤ 3) ∧ (0 ≤ (plainN n).label.c ∧ (plainN n).label.c ≤ 255) ∧ (0 ≤ (plainN n).label.i ∧ (plainN n).label.i ≤ 3) ∧ (0 ≤ (plainN n).label.k ∧ (plainN n).label.k ≤ 255) ∧ (0 ≤ (plainN n).by_.k ∧ (plainN n).by_.k ≤ 255) ∧ (0 ≤ (plainN n).gates ∧ (plainN n).gates ≤ 16) := by
  have h1 := good_GL n.label
  have h2 := good_GL n.by_
  have h3 := goodR_ok ⟨n.r1, n.r2, n.r3, n.gates⟩
  exact ⟨⟨h1.s0, h1.s1⟩, ⟨h1.c0, h1.c1⟩, ⟨h1.i0, h1.i1⟩, ⟨h1.k0, h1.k1⟩, ⟨h2.k0, h2.k1⟩, ⟨h3.2.2.2.2.1, h3.2.2.2.2.2⟩⟩
theorem text_ne {a b : List UInt8} (h : a ≠ b) : ((⟨a.toArray⟩ : ByteArray).toList == (⟨b.toArray⟩ : ByteArray).toList) = false := by
  have : eqs (⟨a.toArray⟩ : ByteArray) ⟨b.toArray⟩ = false := eqs_ne fun q => h (by
    have := congrArg (fun z : ByteArray => z.data.toList) q
    simpa using this)
  exact this
theorem own_rows (W : World) (e : TypeId) : W.ownsRow W.heap.size e 2 (.slice none 0 0) 0 [] := World.ownsRow_nil _ _ _ _
theorem ownG_empty (W : World) : OwnG (W.alloc (.cells #[] 60)) W.heap.size (.slice (some ⟨W.heap.size, 0, none⟩) 0 0) [] :=
  ⟨rfl, .inr ⟨W.heap.size, 0, #[], rfl, Nat.le_refl _, heap_alloc_new W _, Nat.le_refl _, by simp [maxLen], rfl, rfl⟩⟩
theorem ownW_empty (W : World) : OwnW (W.alloc (.cells #[] 2)) W.heap.size (.slice (some ⟨W.heap.size, 0, none⟩) 0 0) [] :=
  ⟨rfl, .inr ⟨W.heap.size, 0, #[], rfl, Nat.le_refl _, heap_alloc_new W _, Nat.le_refl _, by simp [maxLen], rfl, rfl⟩⟩
/-- append of a row that may be none. -/
theorem OwnR.append_any {α : Type} {e t : TypeId} {sz : Nat} {f : α → List Value} {w : World} {base : Nat} {v : Value} {l : List α} (hE : ElemOk e t sz f) (h : OwnR e sz f w base v l) (hb : base ≤ w.heap.size) (a : Option Addr) (c : Nat) (l2 : List α) (hac : a = none → c = 0) (hlc : l2.length ≤ c) (h2 : RowAt sz f w a l2) (hl : l.length < 900000) (hl2 : l2.length < 900000) :
    ∃ v' w', (Builtin.append_ #[t, t] t #[v, .slice a l2.length c]).run Try.prog w = .ok v' w' ∧ OwnR e sz f w' base v' (l ++ l2) ∧ Below base w w' := by
  cases a with
  | some y =>
    obtain ⟨v', w', h1, h2, h3⟩ := h.append hE hb y l2.length c l2 rfl h2 hl hl2
    exact ⟨v', w', h1, h2, h.grew_below hb h3⟩
  | none =>
    obtain rfl := hac rfl
    have h0 : l2 = [] := List.eq_nil_of_length_eq_zero (by omega)
    subst h0
    obtain ⟨i, z, by_, hi, hz, hs, hby, hzs, hbb⟩ := hE.info
    refine ⟨v, w, run_append_owned_none (P := Try.prog) (w := w) base t t e i sz hE.und hi v l.length (l.flatMap f) h, by rw [List.append_nil]; exact h, Below.refl _ _⟩

set_option maxRecDepth 20000 in
set_option maxHeartbeats 8000000 in
theorem nodeOwn_walk (n : Nod) (aa : Option Addr) (ca : Nat) (wa : Option Addr) (cw : Nat) (hac : wa = none → cw = 0) (hlc : n.words.length ≤ cw) (which by0 : Int) (hsz : ∀ g ∈ n.acl, g.u.size ≤ 9223372036854775807) (hws : ∀ x ∈ n.words, -9223372036854775808 ≤ x ∧ x ≤ 9223372036854775807) (w : World) (hG : GrsAt w aa n.acl) (hW : WrdsAt w wa n.words) :
    Calls Try.prog 7 #[n.v aa ca wa cw, .int .i64 which, .int .i64 by0] w fun e w' => e = .returned (.bool true) ∧ Below w.heap.size w w' := by
  have hb0 : Blk (w.alloc (.cells (nl n (.slice aa n.acl.length ca) (.slice wa n.words.length cw)).toArray 29)) w.heap.size (nl n (.slice aa n.acl.length ca) (.slice wa n.words.length cw)) := blk_alloc w _ _
  have hB0 := alloc_below w (.cells (nl n (.slice aa n.acl.length ca) (.slice wa n.words.length cw)).toArray 29)
  have hl0 : w.heap.size < (w.alloc (.cells (nl n (.slice aa n.acl.length ca) (.slice wa n.words.length cw)).toArray 29)).heap.size := by simp
  have kF := few_nl n aa ca wa cw
  have kP := plain_nl n aa ca wa cw
  have hsz0 := nl_sz n (.slice aa n.acl.length ca) (.slice wa n.words.length cw)
  have hund := und_node
  obtain ⟨W0, hW0⟩ : ∃ W0, w.alloc (.cells (nl n (.slice aa n.acl.length ca) (.slice wa n.words.length cw)).toArray 29) = W0 := ⟨_, rfl⟩
  rw [hW0] at hb0 hB0 hl0
  unfold nl at hW0
  obtain ⟨cs0, hcs0⟩ : ∃ cs0, nl n (.slice aa n.acl.length ca) (.slice wa n.words.length cw) = cs0 := ⟨_, rfl⟩
  rw [hcs0] at hb0 hsz0
  simp only [hcs0] at kF kP
  go_enter Try.func7, Try.ntmps7
  go_upto_region 1 with fail
  clear hW0 hcs0
  go_wp2_with fail
  refine (nknown_any _).mono ?_
  rintro e W1 ⟨rfl, hB1⟩
  have hB01 := Below.then hB0 hB1
  have hb1 := hb0.same (hB1.block _ hl0)
  have hl1 := Nat.lt_of_lt_of_le hl0 hB1.size
  have hr1 := hb1.range
  clear hb0 hl0 hB0 hB1
  go_wp2_with (first | (refine wpList_load_row rfl _ rfl _ rfl cs0 hr1 hund rfl hsz0 ?_) | fail)
  refine (kF _).mono ?_
  rintro e W2 ⟨rfl, hB2⟩
  have hB02 := Below.then hB01 hB2
  have hb2 := hb1.same (hB2.block _ hl1)
  have hl2 := Nat.lt_of_lt_of_le hl1 hB2.size
  have hr2 := hb2.range
  clear hb1 hl1 hB01 hB2 hr1 kF
  cases hf : fewN n
  · go_wp2_with fail
    go_ret
    exact ⟨rfl, hB02⟩
  have hPl := plain_Plain hf hws
  have hmore := plain_more (n := n)
  have hlens : (plainN n).acl.length < 40 ∧ (plainN n).words.length < 100 := by
    have h1 : n.path.size < 1000 ∧ n.acl.length < 40 ∧ n.words.length < 100 := by simpa [fewN] using hf
    have h2 := plainG_len n.acl
    exact ⟨by show (plainG n.acl).length < 40; omega, by show n.words.length < 100; omega⟩
  have hc := kP hf hsz W2 (hG.below hB02)
  clear kP hf
  go_wp2_with (first | (refine wpList_load_row rfl _ rfl _ rfl cs0 hr2 hund rfl hsz0 ?_) | fail)
  refine hc.mono ?_
  rintro e W3 ⟨ap, cp, rfl, hGp, hnew, hB3⟩
  have hWw : ∀ W', Below w.heap.size w W' → WrdsAt W' wa (plainN n).words := fun W' h => hW.below h
  have hlc' : (plainN n).words.length ≤ cw := hlc
  obtain ⟨P, hP⟩ : ∃ P, plainN n = P := ⟨_, rfl⟩
  simp only [hP] at hGp hPl hlens hmore hWw hlc' hnew ⊢
  have hacp := hnew.2.1
  have hlcp := hnew.2.2
  have hB03 := Below.then hB02 hB3
  have hb3 := hb2.same (hB3.block _ hl2)
  have hl3 := Nat.lt_of_lt_of_le hl2 hB3.size
  obtain ⟨cs1, hcs1⟩ : ∃ cs1, nl P (.slice ap P.acl.length cp) (.slice wa P.words.length cw) = cs1 := ⟨_, rfl⟩
  have hone := nl_one P ap wa P.acl.length cp P.words.length cw
  have hsz1 := nl_sz P (.slice ap P.acl.length cp) (.slice wa P.words.length cw)
  have hle : cs0.length = cs1.length := by
    rw [hcs1, hsz0] at hsz1
    exact Option.some.inj hsz1
  have h16 : cs1.length = 16 := by rw [← hcs1]; rfl
  simp only [hcs1] at hone hsz1 ⊢
  have hth : W3.there w.heap.size 0 cs1.length := by rw [← hle]; exact hb3.there
  have hb4 := hb3.setAll hle
  have hB4 := Below.cells (Nat.le_refl _) cs1 0 (Below.refl w.heap.size W3)
  have hl4 := Nat.lt_of_lt_of_le hl3 hB4.size
  have hB04 := hB03.trans hB4
  have hG4 : GrsAt (W3.setCells w.heap.size 0 cs1) ap P.acl := hGp.far fun y hy => heap_setCells_other (fun q => by have := hnew.1 y hy; omega) cs1 0 W3
  obtain ⟨W4, hW4e⟩ : ∃ W4, W3.setCells w.heap.size 0 cs1 = W4 := ⟨_, rfl⟩
  rw [hW4e] at hb4 hl4 hB04 hG4
  have hr4 := hb4.range
  obtain ⟨W5, hY, hth5, hbk5, hB5⟩ := put_new W4 nzero.toArray 29 cs1 (by rw [h16]; rfl) (by omega)
  have hkeep : ∀ W, Below W4.heap.size W4 W → GrsAt W ap P.acl ∧ WrdsAt W wa P.words ∧ BlkL w.heap.size cs1 W ∧ Below w.heap.size w W := fun W b => ⟨hG4.below b, hWw _ (Below.then hB04 b), ⟨hb4.same (b.block _ hl4), Nat.lt_of_lt_of_le hl4 b.size⟩, Below.then hB04 b⟩
  have hgm : w.heap.size < W4.heap.size := hl4
  clear hc hGp hnew hB3 hb2 hl2 hr2 hb3 hl3 hB4 hB02 hB03 hG hP hsz0 hsz hws hW hG4 hWw hB04 hl4
  go_upto_region 7 with (first | (refine wpList_store_row rfl _ _ rfl _ rfl cs1 rfl hth hsz1 hone hW4e ?_) | (refine wpList_store_row rfl _ _ rfl _ rfl cs1 rfl hth5 hsz1 hone hY ?_) | (refine wpList_load_row rfl _ rfl _ rfl cs1 hr4 hund rfl hsz1 ?_) | fail)
  clear hth hW4e hle hth5 hY hr4 hb4
  generalize W4.heap.size = gm at *
  have kB := w10_any by0 3 (by decide) (by decide)
  have kK := w10_any which 7 (by decide) (by decide)
  have hB3 : 0 ≤ by0 % 3 ∧ by0 % 3 < 3 := by omega
  have hK7 : 0 ≤ which % 7 ∧ which % 7 < 7 := by omega
  obtain ⟨B, hB⟩ : ∃ B, 1 + by0 % 3 = B := ⟨_, rfl⟩
  obtain ⟨b0, hb0⟩ : ∃ b0, by0 % 3 = b0 := ⟨_, rfl⟩
  obtain ⟨K, hK⟩ : ∃ K, which % 7 = K := ⟨_, rfl⟩
  rw [hb0] at kB hB3 hB
  rw [hK] at kK hK7
  clear hb0 hK
  go_wp2_with fail
  refine (kB _).mono ?_
  rintro e Wx ⟨rfl, hWx⟩
  rw [hWx]
  clear hWx Wx
  have hwB : IntKind.i64.wrap (1 + b0) = B := by rw [IntKind.wrap_i64]; omega
  go_upto_block 0 with (first | (refine (kK _).mono ?_; rintro e Wx ⟨rfl, hWx⟩; rw [hWx]; clear hWx Wx) | fail)
  have hB1 : 1 ≤ B ∧ B ≤ 3 := by omega
  clear kB kK hB hB3 hwB
  have hbm : Blk W5 gm (nl P (.slice ap P.acl.length cp) (.slice wa P.words.length cw)) := by rw [hcs1]; exact hbk5.1
  have hlm := hbk5.2
  obtain ⟨m1, m2, m3, m4, m5, m6⟩ := hmore
  go_cut [] from 8 (fun wc => Other P gm wc ∧ Below gm W4 wc)
  case first =>
    have hset : ∀ k v, Below gm W4 (W5.setCell ⟨gm, k, none⟩ v) := fun k v => hB5.setCell (p := ⟨gm, k, none⟩) (Nat.le_refl _) v
    have hlt : ∀ k v, gm < (W5.setCell ⟨gm, k, none⟩ v).heap.size := fun k v => by simpa using hlm
    have hc7 : K = 0 ∨ K = 1 ∨ K = 2 ∨ K = 3 ∨ K = 4 ∨ K = 5 ∨ K = 6 := by omega
    rcases hc7 with rfl | rfl | rfl | rfl | rfl | rfl | rfl
    · have z1 := hbm 1 (.bool P.dir) rfl
      go_wp2_with fail
      go_meet
      refine ⟨⟨{ P with dir := !P.dir }, ap, cp, wa, cw, ⟨hbm.set 1 _ (by simp [nl]), hlt _ _⟩, (hkeep _ (hset _ _)).1, (hkeep _ (hset _ _)).2.1, ⟨hPl.p, hPl.l, hPl.b, hPl.a, hPl.g, hPl.r1, hPl.r2, hPl.r3, hPl.gt, hPl.w, hPl.x⟩, fun q => ?_⟩, hset _ _⟩
      have := congrArg Nod.dir q
      simp at this
    · have z1 := hbm 2 (.int .i64 P.label.s) rfl
      go_wp2_with fail
      go_meet
      refine ⟨⟨{ P with label := { P.label with s := (P.label.s + B) % 4 } }, ap, cp, wa, cw, ⟨hbm.set 2 _ (by simp [nl]), hlt _ _⟩, (hkeep _ (hset _ _)).1, (hkeep _ (hset _ _)).2.1, ⟨hPl.p, ⟨by show 0 ≤ (P.label.s + B) % 4 ∧ (P.label.s + B) % 4 < 256; omega, hPl.l.c, hPl.l.i, hPl.l.k⟩, hPl.b, hPl.a, hPl.g, hPl.r1, hPl.r2, hPl.r3, hPl.gt, hPl.w, hPl.x⟩, fun q => ?_⟩, hset _ _⟩
      have : (P.label.s + B) % 4 = P.label.s := congrArg (fun z : Nod => z.label.s) q
      omega
    · have z1 := hbm 15 (.int .i64 P.by_.k) rfl
      go_wp2_with fail
      go_meet
      refine ⟨⟨{ P with by_ := { P.by_ with k := (P.by_.k + B) % 256 } }, ap, cp, wa, cw, ⟨hbm.set 15 _ (by simp [nl]), hlt _ _⟩, (hkeep _ (hset _ _)).1, (hkeep _ (hset _ _)).2.1, ⟨hPl.p, hPl.l, ⟨hPl.b.s, hPl.b.c, hPl.b.i, by show 0 ≤ (P.by_.k + B) % 256 ∧ (P.by_.k + B) % 256 < 256; omega⟩, hPl.a, hPl.g, hPl.r1, hPl.r2, hPl.r3, hPl.gt, hPl.w, hPl.x⟩, fun q => ?_⟩, hset _ _⟩
      have : (P.by_.k + B) % 256 = P.by_.k := congrArg (fun z : Nod => z.by_.k) q
      omega
    · have z1 := hbm 10 (.int .i64 P.gates) rfl
      go_wp2_with fail
      go_meet
      refine ⟨⟨{ P with gates := (P.gates + B) % 17 }, ap, cp, wa, cw, ⟨hbm.set 10 _ (by simp [nl]), hlt _ _⟩, (hkeep _ (hset _ _)).1, (hkeep _ (hset _ _)).2.1, ⟨hPl.p, hPl.l, hPl.b, hPl.a, hPl.g, hPl.r1, hPl.r2, hPl.r3, by show 0 ≤ (P.gates + B) % 17 ∧ (P.gates + B) % 17 < 256; omega, hPl.w, hPl.x⟩, fun q => ?_⟩, hset _ _⟩
      have : (P.gates + B) % 17 = P.gates := congrArg (fun z : Nod => z.gates) q
      omega
    · have z11 := hbm 11 (.slice wa P.words.length cw) rfl
      have hO0 := ownW_empty W5
      have hBa := alloc_below W5 (.cells #[] 2)
      have hr5 := (((hkeep _ hB5).2.1).below hBa).row
      obtain ⟨v1, V1, hap1, hO1, hG1⟩ := hO0.append_any wd_ok (by simp) wa cw P.words hac hlc' hr5 (by simp) (by omega)
      rw [List.nil_append] at hO1
      have hB51 : Below W5.heap.size W5 V1 := hBa.trans hG1
      obtain ⟨v2, V2, hap2, hO2, hG2⟩ := hO1.push wd_ok hB51.size B #[.int .i64 B] rfl 2 (by omega)
      have hB52 : Below W5.heap.size W5 V2 := hB51.trans (hO1.grew_below hB51.size hG2)
      obtain ⟨a2, c2, hv2, -, -, hr2⟩ := hO2.slice wd_ok.len
      have hl2 : (P.words ++ [B]).length = P.words.length + 1 := by simp
      rw [hl2] at hv2
      subst hv2
      have hbm2 := hbm.same (hB52.block _ hlm)
      have z11b := hbm2 11 (.slice wa P.words.length cw) rfl
      have hlm2 := Nat.lt_of_lt_of_le hlm hB52.size
      have hBf : Below gm W4 (V2.setCell ⟨gm, 11, none⟩ (.slice a2 (P.words.length + 1) c2)) := (hB5.trans (hB52.mono (Nat.le_of_lt hlm))).setCell (p := ⟨gm, 11, none⟩) (Nat.le_refl _) _
      have hO9 : OwnW (V2.setCell ⟨gm, 11, none⟩ (.slice a2 (P.words.length + 1) c2)) W5.heap.size (.slice a2 (P.words.length + 1) c2) (P.words ++ [B]) := hO2.set (fun hk => by have := (hO2.lt hk).1; omega)
      obtain ⟨a3, c3, hv3, -, -, hr3⟩ := hO9.slice wd_ok.len
      injection hv3 with ea el_ ec
      subst ea
      clear el_ ec
      have hb9 := hbm2.set 11 (.slice a2 (P.words.length + 1) c2) (by simp [nl])
      have hl2 : Aside ((P.words ++ [B]).length = P.words.length + 1) := hl2
      clear hO0 hO1 hO2 hG1 hG2 hBa hr5 hr2 hB51 hB52 hO9
      rename_i hl2o
      clear hl2o
      go_wp2_with (first | (refine wpList_append rfl _ _ rfl rfl rfl rfl hap1 ?_) | (refine wpList_append rfl _ _ rfl rfl rfl rfl hap2 ?_) | fail)
      go_meet
      refine ⟨⟨{ P with words := P.words ++ [B] }, ap, cp, a2, c2, ⟨by rw [hl2.out]; exact hb9, by simpa using hlm2⟩, (hkeep _ hBf).1, hr3.wrds, ⟨hPl.p, hPl.l, hPl.b, hPl.a, hPl.g, hPl.r1, hPl.r2, hPl.r3, hPl.gt, by show (P.words ++ [B]).length < 256; rw [hl2.out]; omega, fun x hx => ?_⟩, fun q => ?_⟩, hBf⟩
      · rcases List.mem_append.1 hx with h | h
        · exact hPl.x x h
        · simp at h
          omega
      · have := congrArg (fun z : Nod => z.words.length) q
        simp at this
    · have z6 := hbm 6 (.slice ap P.acl.length cp) rfl
      have hO0 := ownG_empty W5
      have hBa := alloc_below W5 (.cells #[] 60)
      have hr5 := (((hkeep _ hB5).1).below hBa).row
      obtain ⟨v1, V1, hap1, hO1, hG1⟩ := hO0.append_any gr_ok (by simp) ap cp P.acl hacp hlcp hr5 (by simp) (by omega)
      rw [List.nil_append] at hO1
      have hB51 : Below W5.heap.size W5 V1 := hBa.trans hG1
      obtain ⟨v2, V2, hap2, hO2, hG2⟩ := hO1.push gr_ok hB51.size ⟨⟨#[122]⟩, B⟩ #[.string ⟨#[122]⟩, .int .i64 B] rfl 60 (by omega)
      have hB52 : Below W5.heap.size W5 V2 := hB51.trans (hO1.grew_below hB51.size hG2)
      obtain ⟨a2, c2, hv2, -, -, hr2⟩ := hO2.slice gr_ok.len
      have hl2 : (P.acl ++ [(⟨⟨#[122]⟩, B⟩ : Gr)]).length = P.acl.length + 1 := by simp
      rw [hl2] at hv2
      subst hv2
      have hbm2 := hbm.same (hB52.block _ hlm)
      have z6b := hbm2 6 (.slice ap P.acl.length cp) rfl
      have hlm2 := Nat.lt_of_lt_of_le hlm hB52.size
      have hBf : Below gm W4 (V2.setCell ⟨gm, 6, none⟩ (.slice a2 (P.acl.length + 1) c2)) := (hB5.trans (hB52.mono (Nat.le_of_lt hlm))).setCell (p := ⟨gm, 6, none⟩) (Nat.le_refl _) _
      have hO9 : OwnG (V2.setCell ⟨gm, 6, none⟩ (.slice a2 (P.acl.length + 1) c2)) W5.heap.size (.slice a2 (P.acl.length + 1) c2) (P.acl ++ [(⟨⟨#[122]⟩, B⟩ : Gr)]) := hO2.set (fun hk => by have := (hO2.lt hk).1; omega)
      obtain ⟨a3, c3, hv3, -, -, hr3⟩ := hO9.slice gr_ok.len
      injection hv3 with ea el_ ec
      subst ea
      clear el_ ec
      have hb9 := hbm2.set 6 (.slice a2 (P.acl.length + 1) c2) (by simp [nl])
      have hl2 : Aside ((P.acl ++ [(⟨⟨#[122]⟩, B⟩ : Gr)]).length = P.acl.length + 1) := hl2
      clear hO0 hO1 hO2 hG1 hG2 hBa hr5 hr2 hB51 hB52 hO9
      rename_i hl2o
      clear hl2o
      go_wp2_with (first | (refine wpList_append rfl _ _ rfl rfl rfl rfl hap1 ?_) | (refine wpList_append rfl _ _ rfl rfl rfl rfl hap2 ?_) | fail)
      go_meet
      refine ⟨⟨{ P with acl := P.acl ++ [(⟨⟨#[122]⟩, B⟩ : Gr)] }, a2, c2, wa, cw, ⟨by rw [hl2.out]; exact hb9, by simpa using hlm2⟩, hr3.grs, (hkeep _ hBf).2.1, ⟨hPl.p, hPl.l, hPl.b, by show (P.acl ++ [(⟨⟨#[122]⟩, B⟩ : Gr)]).length < 256; rw [hl2.out]; omega, fun x hx => ?_, hPl.r1, hPl.r2, hPl.r3, hPl.gt, hPl.w, hPl.x⟩, fun q => ?_⟩, hBf⟩
      · rcases List.mem_append.1 hx with h | h
        · exact hPl.g x h
        · simp at h
          subst h
          exact ⟨by show 1 < 256; omega, by show 0 ≤ B; omega, by show B < 256; omega⟩
      · have := congrArg (fun z : Nod => z.acl.length) q
        simp at this
    · have z2 := hbm 2 (.int .i64 P.label.s) rfl
      have z3 := hbm 3 (.int .i64 P.label.c) rfl
      have z4 := hbm 4 (.int .i64 P.label.i) rfl
      have z5 := hbm 5 (.int .i64 P.label.k) rfl
      have kG := fun W => good_any ⟨P.label.s + B, P.label.c, P.label.i, P.label.k⟩ W
      have hX : goodL ⟨P.label.s + B, P.label.c, P.label.i, P.label.k⟩ = ⟨(P.label.s + B) % 4, P.label.c, P.label.i, P.label.k⟩ := by
        unfold goodL
        simp only [Lab.mk.injEq]
        exact ⟨trivial, by omega, by omega, by omega⟩
      simp only [hX] at kG
      go_wp2_with fail
      refine (kG _).mono ?_
      rintro e W6 ⟨rfl, hB6⟩
      have hbm6 := hbm.same (hB6.block _ hlm)
      have y2 := hbm6 2 (.int .i64 P.label.s) rfl
      have y3 := hbm6 3 (.int .i64 P.label.c) rfl
      have y4 := hbm6 4 (.int .i64 P.label.i) rfl
      have y5 := hbm6 5 (.int .i64 P.label.k) rfl
      have hBf := ((((hB5.trans (hB6.mono (Nat.le_of_lt hlm))).setCell (p := ⟨gm, 2, none⟩) (Nat.le_refl _) (.int .i64 ((P.label.s + B) % 4))).setCell (p := ⟨gm, 3, none⟩) (Nat.le_refl _) (.int .i64 P.label.c)).setCell (p := ⟨gm, 4, none⟩) (Nat.le_refl _) (.int .i64 P.label.i)).setCell (p := ⟨gm, 5, none⟩) (Nat.le_refl _) (.int .i64 P.label.k)
      have hb9 := (((hbm6.set 2 (.int .i64 ((P.label.s + B) % 4)) (by simp [nl])).set 3 (.int .i64 P.label.c) (by simp [nl])).set 4 (.int .i64 P.label.i) (by simp [nl])).set 5 (.int .i64 P.label.k) (by simp [nl])
      have hl9 := Nat.lt_of_lt_of_le hlm hB6.size
      clear kG hX z2 z3 z4 z5
      go_wp2_with fail
      go_meet
      refine ⟨⟨{ P with label := { P.label with s := (P.label.s + B) % 4 } }, ap, cp, wa, cw, ⟨hb9, by simpa using hl9⟩, (hkeep _ hBf).1, (hkeep _ hBf).2.1, ⟨hPl.p, ⟨by show 0 ≤ (P.label.s + B) % 4 ∧ (P.label.s + B) % 4 < 256; omega, hPl.l.c, hPl.l.i, hPl.l.k⟩, hPl.b, hPl.a, hPl.g, hPl.r1, hPl.r2, hPl.r3, hPl.gt, hPl.w, hPl.x⟩, fun q => ?_⟩, hBf⟩
      have : (P.label.s + B) % 4 = P.label.s := congrArg (fun z : Nod => z.label.s) q
      omega
  case rest =>
  obtain ⟨⟨M, am, cm, wm, dm, hbM, hGM, hWM, hMP, hne⟩, hB6⟩ := hcut
  obtain ⟨hGP, hWP, hbP, hBP⟩ := hkeep _ hB6
  have hMl := hMP.a
  have hMw := hMP.w
  have kS := fun W (g1 : GrsAt W ap P.acl) g2 (w1 : WrdsAt W wa P.words) w2 => same_nl P M ap cp wa cw am cm wm dm (by omega) (by omega) (by omega) (by omega) W g1 g2 w1 w2
  have kP := fun W => enc_nl P ap cp wa cw hPl W
  have kM := fun W => enc_nl M am cm wm dm hMP W
  have hfalse : nodEq P M = false := by
    cases hq : nodEq P M
    · rfl
    · exact absurd (nodEq_iff.1 hq).symm hne
  have hle : encN P ≠ encN M := fun q => hne (enc_inj hPl hMP q).symm
  have hszM := nl_sz M (.slice am M.acl.length cm) (.slice wm M.words.length dm)
  obtain ⟨csM, hcsM⟩ : ∃ csM, nl M (.slice am M.acl.length cm) (.slice wm M.words.length dm) = csM := ⟨_, rfl⟩
  simp only [hcs1, hcsM, hfalse] at kS kP kM hbM hszM
  obtain ⟨l1, hl1⟩ : ∃ l1, encN P = l1 := ⟨_, rfl⟩
  obtain ⟨l2, hl2⟩ : ∃ l2, encN M = l2 := ⟨_, rfl⟩
  simp only [hl1] at kP hle
  simp only [hl2] at kM hle
  have htx := text_ne hle
  have hll : (l1 == l2) = false := by simpa using hle
  obtain ⟨ks, hks⟩ : ∃ ks : List (World → Prop), ks = [BlkL w.heap.size cs1, BlkL gm csM, fun W => GrsAt W ap P.acl, fun W => WrdsAt W wa P.words, fun W => GrsAt W am M.acl, fun W => WrdsAt W wm M.words] := ⟨_, rfl⟩
  have H0 : Held w wc ks := by
    rw [hks]
    have h00 : Held w wc [] := ⟨fun _ h => by simp at h, hBP⟩
    exact (((((h00.add hWM (fun _ _ h b => h.below b)).add hGM (fun _ _ h b => h.below b)).add hWP (fun _ _ h b => h.below b)).add hGP (fun _ _ h b => h.below b)).add hbM (stab_blk _ _)).add hbP (stab_blk _ _)
  have A0 : ∀ W, Held w W ks → W.rangeAt w.heap.size 0 cs1 := fun W h => by rw [hks] at h; exact (h.get (i := 0) rfl).range
  have A1 : ∀ W, Held w W ks → W.rangeAt gm 0 csM := fun W h => by rw [hks] at h; exact (h.get (i := 1) rfl).range
  have kS' : ∀ W, Held w W ks → Calls Try.prog 10 #[.agg cs1.toArray, .agg csM.toArray] W fun e w' => e = .returned (.bool false) ∧ Below W.heap.size W w' := fun W h => by rw [hks] at h; exact kS W (h.get (i := 2) rfl) (h.get (i := 4) rfl) (h.get (i := 3) rfl) (h.get (i := 5) rfl)
  have kP' : ∀ W, Held w W ks → Calls Try.prog 13 #[.agg cs1.toArray] W _ := fun W h => by rw [hks] at h; exact kP W (h.get (i := 2) rfl) (h.get (i := 3) rfl)
  have kM' : ∀ W, Held w W ks → Calls Try.prog 13 #[.agg csM.toArray] W _ := fun W h => by rw [hks] at h; exact kM W (h.get (i := 4) rfl) (h.get (i := 5) rfl)
  clear kS kP kM hks hcs1 hcsM hfalse hle hl1 hl2 hbM hGM hWM hGP hWP hbP hBP hB6 hkeep hbk5 hB5 hbm hlm
  have hS0 := H0.drew
  clear H0
  go_upto_region 23 with fail
  refine wp_region_held_drew (S := (fun W => Held w W ks)) (by kernel_rfl) (by exact hS0) ?_
  intro hHeld
  refine wpAnyH_take (i := 0) (v := _) (by simp only [List.getElem?_toArray, List.getElem?_cons_zero, List.getElem?_cons_succ]; rfl) (by kernel_rfl) (by kernel_rfl) (by kernel_rfl) (by exact fun _ _ _ h => h) (yields_row (by rfl) _ rfl _ rfl cs1 A0 hund rfl hsz1) (by assumption) ?_; (try simp only [Act.put, List.setIfInBounds_toArray, List.set_cons_zero, List.set_cons_succ])
  refine wpAnyH_take (i := 1) (v := _) (by simp only [List.getElem?_toArray, List.getElem?_cons_zero, List.getElem?_cons_succ]; rfl) (by kernel_rfl) (by kernel_rfl) (by kernel_rfl) (by exact fun _ _ _ h => h) (yields_row (by rfl) _ rfl _ rfl csM A1 hund rfl hszM) (by assumption) ?_; (try simp only [Act.put, List.setIfInBounds_toArray, List.set_cons_zero, List.set_cons_succ])
  refine wpAnyH_ready (rs := [2]) (by kernel_rfl) (by simp) ?_
  refine AllReadyH.cons (by simp only [List.getElem?_toArray, List.getElem?_cons_zero, List.getElem?_cons_succ]; rfl) (fun K hK => ?_) AllReadyH.nil
  go_simp
  go_at_call 10
  refine (kS' _ hS0).mono ?_
  rintro e w2 ⟨rfl, hB⟩
  have hS0 := hS0.then hB
  refine hK.out _ _ (hS0) ?_
  clear hHeld hK
  intro hHeld
  (try simp only [Act.put, List.setIfInBounds_toArray, List.set_cons_zero, List.set_cons_succ])
  refine wpAnyH_take (i := 3) (v := ?_) (by simp only [List.getElem?_toArray, List.getElem?_cons_zero, List.getElem?_cons_succ]; rfl) (by kernel_rfl) (by kernel_rfl) (by kernel_rfl) (by exact fun _ _ _ h => h) (Or.inl ⟨by rfl, ?_⟩) (by assumption) ?_; rotate_left; (focus (intro w hSw; (try dsimp only at hSw); go_simp; try with_reducible rfl)); (try simp only [Act.put, List.setIfInBounds_toArray, List.set_cons_zero, List.set_cons_succ])
  refine wpAnyH_take (i := 4) (v := ?_) (by simp only [List.getElem?_toArray, List.getElem?_cons_zero, List.getElem?_cons_succ]; rfl) (by kernel_rfl) (by kernel_rfl) (by kernel_rfl) (by exact fun _ _ _ h => h) (Or.inl ⟨by rfl, ?_⟩) (by assumption) ?_; rotate_left; (focus (intro w hSw; (try dsimp only at hSw); go_simp; try with_reducible rfl)); (try simp only [Act.put, List.setIfInBounds_toArray, List.set_cons_zero, List.set_cons_succ])
  refine wpAnyH_take (i := 5) (v := _) (by simp only [List.getElem?_toArray, List.getElem?_cons_zero, List.getElem?_cons_succ]; rfl) (by kernel_rfl) (by kernel_rfl) (by kernel_rfl) (by exact fun _ _ _ h => h) (yields_row (by rfl) _ rfl _ rfl cs1 A0 hund rfl hsz1) (by assumption) ?_; (try simp only [Act.put, List.setIfInBounds_toArray, List.set_cons_zero, List.set_cons_succ])
  refine wpAnyH_take (i := 8) (v := _) (by simp only [List.getElem?_toArray, List.getElem?_cons_zero, List.getElem?_cons_succ]; rfl) (by kernel_rfl) (by kernel_rfl) (by kernel_rfl) (by exact fun _ _ _ h => h) (yields_row (by rfl) _ rfl _ rfl csM A1 hund rfl hszM) (by assumption) ?_; (try simp only [Act.put, List.setIfInBounds_toArray, List.set_cons_zero, List.set_cons_succ])
  refine wpAnyH_ready (rs := [6]) (by kernel_rfl) (by simp) ?_
  refine AllReadyH.cons (by simp only [List.getElem?_toArray, List.getElem?_cons_zero, List.getElem?_cons_succ]; rfl) (fun K hK => ?_) AllReadyH.nil
  go_simp
  go_at_call 13
  refine (kP' _ hS0).mono ?_
  rintro e w6 ⟨a6, c6, rfl, -, -, hac6, hby6, hB⟩
  have hS0 := hS0.then hB
  have hc6 := bytes_text hby6 hac6
  refine hK.out _ _ (hS0) ?_
  clear hHeld hK
  intro hHeld
  (try simp only [Act.put, List.setIfInBounds_toArray, List.set_cons_zero, List.set_cons_succ])
  refine wpAnyH_ready (rs := [7, 9]) (by kernel_rfl) (by simp) ?_
  refine AllReadyH.cons (by simp only [List.getElem?_toArray, List.getElem?_cons_zero, List.getElem?_cons_succ]; rfl) (fun K hK => ?_) ?_
  · go_simp
    refine hK.out _ _ (hS0) ?_
    clear hHeld hK
    intro hHeld
    (try simp only [Act.put, List.setIfInBounds_toArray, List.set_cons_zero, List.set_cons_succ])
    refine wpAnyH_ready (rs := [9]) (by kernel_rfl) (by simp) ?_
    refine AllReadyH.cons (by simp only [List.getElem?_toArray, List.getElem?_cons_zero, List.getElem?_cons_succ]; rfl) (fun K hK => ?_) AllReadyH.nil
    go_simp
    go_at_call 13
    refine (kM' _ hS0).mono ?_
    rintro e w9 ⟨a9, c9, rfl, -, -, hac9, hby9, hB⟩
    have hS0 := hS0.then hB
    have hc9 := bytes_text hby9 hac9
    have hc6 := bytes_text (hby6.below hB) hac6
    refine hK.out _ _ (hS0) ?_
    clear hHeld hK
    intro hHeld
    (try simp only [Act.put, List.setIfInBounds_toArray, List.set_cons_zero, List.set_cons_succ])
    refine wpAnyH_ready (rs := [10]) (by kernel_rfl) (by simp) ?_
    refine AllReadyH.cons (by simp only [List.getElem?_toArray, List.getElem?_cons_zero, List.getElem?_cons_succ]; rfl) (fun K hK => ?_) AllReadyH.nil
    go_simp
    refine hK.out _ _ (hS0) ?_
    clear hHeld hK
    intro hHeld
    (try simp only [Act.put, List.setIfInBounds_toArray, List.set_cons_zero, List.set_cons_succ])
    refine wpAnyH_take (i := 11) (v := ?_) (by simp only [List.getElem?_toArray, List.getElem?_cons_zero, List.getElem?_cons_succ]; rfl) (by kernel_rfl) (by kernel_rfl) (by kernel_rfl) (by exact fun _ _ _ h => h) (Or.inl ⟨by rfl, ?_⟩) (by assumption) ?_; rotate_left; (focus (intro w hSw; (try dsimp only at hSw); go_simp; try with_reducible rfl)); (try simp only [Act.put, List.setIfInBounds_toArray, List.set_cons_zero, List.set_cons_succ])
    refine wpAnyH_take (i := 12) (v := ?_) (by simp only [List.getElem?_toArray, List.getElem?_cons_zero, List.getElem?_cons_succ]; rfl) (by kernel_rfl) (by kernel_rfl) (by kernel_rfl) (by exact fun _ _ _ h => h) (Or.inl ⟨by rfl, ?_⟩) (by assumption) ?_; rotate_left; (focus (intro w hSw; (try dsimp only at hSw); go_simp; try with_reducible rfl)); (try simp only [Act.put, List.setIfInBounds_toArray, List.set_cons_zero, List.set_cons_succ])
    refine wpAnyH_take (i := 13) (v := ?_) (by simp only [List.getElem?_toArray, List.getElem?_cons_zero, List.getElem?_cons_succ]; rfl) (by kernel_rfl) (by kernel_rfl) (by kernel_rfl) (by exact fun _ _ _ h => h) (Or.inl ⟨by rfl, ?_⟩) (by assumption) ?_; rotate_left; (focus (intro w hSw; (try dsimp only at hSw); go_simp; try with_reducible rfl)); (try simp only [Act.put, List.setIfInBounds_toArray, List.set_cons_zero, List.set_cons_succ])
    refine wpAnyH_done (by kernel_rfl) ?_ _
    go_wp2_with fail
    go_ret
    exact ⟨rfl, hS0.bl⟩
  refine AllReadyH.cons (by simp only [List.getElem?_toArray, List.getElem?_cons_zero, List.getElem?_cons_succ]; rfl) (fun K hK => ?_) AllReadyH.nil
  go_simp
  go_at_call 13
  refine (kM' _ hS0).mono ?_
  rintro e w9 ⟨a9, c9, rfl, -, -, hac9, hby9, hB⟩
  have hS0 := hS0.then hB
  have hc9 := bytes_text hby9 hac9
  have hc6 := bytes_text (hby6.below hB) hac6
  refine hK.out _ _ (hS0) ?_
  clear hHeld hK
  intro hHeld
  (try simp only [Act.put, List.setIfInBounds_toArray, List.set_cons_zero, List.set_cons_succ])
  refine wpAnyH_ready (rs := [7, 10]) (by kernel_rfl) (by simp) ?_
  refine AllReadyH.cons (by simp only [List.getElem?_toArray, List.getElem?_cons_zero, List.getElem?_cons_succ]; rfl) (fun K hK => ?_) ?_
  · go_simp
    refine hK.out _ _ (hS0) ?_
    clear hHeld hK
    intro hHeld
    (try simp only [Act.put, List.setIfInBounds_toArray, List.set_cons_zero, List.set_cons_succ])
    refine wpAnyH_ready (rs := [10]) (by kernel_rfl) (by simp) ?_
    refine AllReadyH.cons (by simp only [List.getElem?_toArray, List.getElem?_cons_zero, List.getElem?_cons_succ]; rfl) (fun K hK => ?_) AllReadyH.nil
    go_simp
    refine hK.out _ _ (hS0) ?_
    clear hHeld hK
    intro hHeld
    (try simp only [Act.put, List.setIfInBounds_toArray, List.set_cons_zero, List.set_cons_succ])
    refine wpAnyH_take (i := 11) (v := ?_) (by simp only [List.getElem?_toArray, List.getElem?_cons_zero, List.getElem?_cons_succ]; rfl) (by kernel_rfl) (by kernel_rfl) (by kernel_rfl) (by exact fun _ _ _ h => h) (Or.inl ⟨by rfl, ?_⟩) (by assumption) ?_; rotate_left; (focus (intro w hSw; (try dsimp only at hSw); go_simp; try with_reducible rfl)); (try simp only [Act.put, List.setIfInBounds_toArray, List.set_cons_zero, List.set_cons_succ])
    refine wpAnyH_take (i := 12) (v := ?_) (by simp only [List.getElem?_toArray, List.getElem?_cons_zero, List.getElem?_cons_succ]; rfl) (by kernel_rfl) (by kernel_rfl) (by kernel_rfl) (by exact fun _ _ _ h => h) (Or.inl ⟨by rfl, ?_⟩) (by assumption) ?_; rotate_left; (focus (intro w hSw; (try dsimp only at hSw); go_simp; try with_reducible rfl)); (try simp only [Act.put, List.setIfInBounds_toArray, List.set_cons_zero, List.set_cons_succ])
    refine wpAnyH_take (i := 13) (v := ?_) (by simp only [List.getElem?_toArray, List.getElem?_cons_zero, List.getElem?_cons_succ]; rfl) (by kernel_rfl) (by kernel_rfl) (by kernel_rfl) (by exact fun _ _ _ h => h) (Or.inl ⟨by rfl, ?_⟩) (by assumption) ?_; rotate_left; (focus (intro w hSw; (try dsimp only at hSw); go_simp; try with_reducible rfl)); (try simp only [Act.put, List.setIfInBounds_toArray, List.set_cons_zero, List.set_cons_succ])
    refine wpAnyH_done (by kernel_rfl) ?_ _
    go_wp2_with fail
    go_ret
    exact ⟨rfl, hS0.bl⟩
  refine AllReadyH.cons (by simp only [List.getElem?_toArray, List.getElem?_cons_zero, List.getElem?_cons_succ]; rfl) (fun K hK => ?_) AllReadyH.nil
  go_simp
  refine hK.out _ _ (hS0) ?_
  clear hHeld hK
  intro hHeld
  (try simp only [Act.put, List.setIfInBounds_toArray, List.set_cons_zero, List.set_cons_succ])
  refine wpAnyH_ready (rs := [7]) (by kernel_rfl) (by simp) ?_
  refine AllReadyH.cons (by simp only [List.getElem?_toArray, List.getElem?_cons_zero, List.getElem?_cons_succ]; rfl) (fun K hK => ?_) AllReadyH.nil
  go_simp
  refine hK.out _ _ (hS0) ?_
  clear hHeld hK
  intro hHeld
  (try simp only [Act.put, List.setIfInBounds_toArray, List.set_cons_zero, List.set_cons_succ])
  refine wpAnyH_take (i := 11) (v := ?_) (by simp only [List.getElem?_toArray, List.getElem?_cons_zero, List.getElem?_cons_succ]; rfl) (by kernel_rfl) (by kernel_rfl) (by kernel_rfl) (by exact fun _ _ _ h => h) (Or.inl ⟨by rfl, ?_⟩) (by assumption) ?_; rotate_left; (focus (intro w hSw; (try dsimp only at hSw); go_simp; try with_reducible rfl)); (try simp only [Act.put, List.setIfInBounds_toArray, List.set_cons_zero, List.set_cons_succ])
  refine wpAnyH_take (i := 12) (v := ?_) (by simp only [List.getElem?_toArray, List.getElem?_cons_zero, List.getElem?_cons_succ]; rfl) (by kernel_rfl) (by kernel_rfl) (by kernel_rfl) (by exact fun _ _ _ h => h) (Or.inl ⟨by rfl, ?_⟩) (by assumption) ?_; rotate_left; (focus (intro w hSw; (try dsimp only at hSw); go_simp; try with_reducible rfl)); (try simp only [Act.put, List.setIfInBounds_toArray, List.set_cons_zero, List.set_cons_succ])
  refine wpAnyH_take (i := 13) (v := ?_) (by simp only [List.getElem?_toArray, List.getElem?_cons_zero, List.getElem?_cons_succ]; rfl) (by kernel_rfl) (by kernel_rfl) (by kernel_rfl) (by exact fun _ _ _ h => h) (Or.inl ⟨by rfl, ?_⟩) (by assumption) ?_; rotate_left; (focus (intro w hSw; (try dsimp only at hSw); go_simp; try with_reducible rfl)); (try simp only [Act.put, List.setIfInBounds_toArray, List.set_cons_zero, List.set_cons_succ])
  refine wpAnyH_done (by kernel_rfl) ?_ _
  go_wp2_with fail
  go_ret
  exact ⟨rfl, hS0.bl⟩end Go.Proofs.Ytecleampjeebaaa
