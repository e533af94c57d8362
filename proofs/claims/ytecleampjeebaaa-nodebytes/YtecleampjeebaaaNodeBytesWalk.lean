/-
  THE WALK OF NodeBytes.
-/
import Derived.Test.YtecleampjeebaaaNodeLaw
namespace Go.Proofs.Ytecleampjeebaaa
open Go.RowKit
set_option linter.unusedSimpArgs false
set_option linter.unusedVariables false

/-- What the law's last region stands on. -/
structure SX (w W : World) (P : Nod) (ap wa xa ya : Option Addr) (a : Option Addr) (m : Nat) (l : List UInt8) (gx : Nat) (cs ds : List Value) : Prop where
  b0 : Blk W w.heap.size cs
  bx : Blk W gx ds
  by_ : BytesAt W a m l
  g1 : GrsAt W ap P.acl
  w1 : WrdsAt W wa P.words
  g2 : GrsAt W xa P.acl
  w2 : WrdsAt W ya P.words
  bl : Below w.heap.size w W
  lt : w.heap.size < W.heap.size
  lx : gx < W.heap.size
theorem SX.then {w W W' : World} {P : Nod} {ap wa xa ya : Option Addr} {a : Option Addr} {m : Nat} {l : List UInt8} {gx : Nat} {cs ds : List Value} (h : SX w W P ap wa xa ya a m l gx cs ds) (b : Below W.heap.size W W') : SX w W' P ap wa xa ya a m l gx cs ds :=
  ⟨h.b0.same (b.block _ h.lt), h.bx.same (b.block _ h.lx), h.by_.below b, h.g1.below b, h.w1.below b, h.g2.below b, h.w2.below b, Below.then h.bl b, Nat.lt_of_lt_of_le h.lt b.size, Nat.lt_of_lt_of_le h.lx b.size⟩
theorem SX.drew {w W : World} {P : Nod} {ap wa xa ya : Option Addr} {a : Option Addr} {m : Nat} {l : List UInt8} {gx : Nat} {cs ds : List Value} (h : SX w W P ap wa xa ya a m l gx cs ds) : SX w W.drew P ap wa xa ya a m l gx cs ds := h.then (Below.refl _ _).drew

set_option maxRecDepth 20000 in
set_option maxHeartbeats 8000000 in
theorem nodeBytes_walk (n o : Nod) (aa : Option Addr) (ca : Nat) (wa : Option Addr) (cw : Nat) (ab : Option Addr) (cb : Nat) (wb : Option Addr) (cd : Nat) (hsz : ∀ g ∈ n.acl, g.u.size ≤ 9223372036854775807) (hws : ∀ x ∈ n.words, -9223372036854775808 ≤ x ∧ x ≤ 9223372036854775807) (w : World) (hG : GrsAt w aa n.acl) (hW : WrdsAt w wa n.words) (hG2 : GrsAt w ab o.acl) (hW2 : WrdsAt w wb o.words) :
    Calls Try.prog 3 #[n.v aa ca wa cw, o.v ab cb wb cd] w fun e w' => e = .returned (.bool true) ∧ Below w.heap.size w w' := by
  have h0 : TwoL w ((w.alloc (.cells (nl n (.slice aa n.acl.length ca) (.slice wa n.words.length cw)).toArray 29)).alloc (.cells (nl o (.slice ab o.acl.length cb) (.slice wb o.words.length cd)).toArray 29)) (nl n (.slice aa n.acl.length ca) (.slice wa n.words.length cw)) (nl o (.slice ab o.acl.length cb) (.slice wb o.words.length cd)) := twol_start w _ _ _ _
  have kF := few_nl n aa ca wa cw
  have kF2 := few_nl o ab cb wb cd
  have kP := plain_nl n aa ca wa cw
  have kS := fun (hn : fewN n = true) (ho : fewN o = true) W (h : Below w.heap.size w W) => same_nl n o aa ca wa cw ab cb wb cd (few_len hn).1 (few_len hn).2 (few_len ho).1 (few_len ho).2 W (hG.below h) (hG2.below h) (hW.below h) (hW2.below h)
  have kR := fun (hn : fewN n = true) W (h : Below w.heap.size w W) => rsame_nl n o aa ca wa cw ab cb wb cd (few_len hn).1 (few_len hn).2 W (hG.below h) (hG2.below h) (hW.below h) (hW2.below h)
  have kT := fun (hn : fewN n = true) W (h : Below w.heap.size w W) => same_nl n n aa ca wa cw aa ca wa cw (few_len hn).1 (few_len hn).2 (few_len hn).1 (few_len hn).2 W (hG.below h) (hG.below h) (hW.below h) (hW.below h)
  have hsz0 := nl_sz n (.slice aa n.acl.length ca) (.slice wa n.words.length cw)
  have hszo := nl_sz o (.slice ab o.acl.length cb) (.slice wb o.words.length cd)
  have hund := und_node
  obtain ⟨W0, hW0⟩ : ∃ W0, (w.alloc (.cells (nl n (.slice aa n.acl.length ca) (.slice wa n.words.length cw)).toArray 29)).alloc (.cells (nl o (.slice ab o.acl.length cb) (.slice wb o.words.length cd)).toArray 29) = W0 := ⟨_, rfl⟩
  rw [hW0] at h0
  unfold nl at hW0
  obtain ⟨cs0, hcs0⟩ : ∃ cs0, nl n (.slice aa n.acl.length ca) (.slice wa n.words.length cw) = cs0 := ⟨_, rfl⟩
  obtain ⟨ds, hds⟩ : ∃ ds, nl o (.slice ab o.acl.length cb) (.slice wb o.words.length cd) = ds := ⟨_, rfl⟩
  simp only [hcs0, hds] at h0 hsz0 hszo kF kF2 kP kS kR kT
  have hl0 : cs0.length = 16 := by rw [← hcs0]; rfl
  go_enter Try.func3, Try.ntmps3
  go_upto_region 1 with fail
  clear hW0 hcs0 hds
  go_wp2_with fail
  refine (nknown_any _).mono ?_
  rintro e W1 ⟨rfl, hB1⟩
  have h1 := h0.then hB1
  have hr1 := h1.b0.range
  clear h0 hB1
  cases hf : fewN n
  · rw [hf] at kF
    go_wp2_with (first | (refine wpList_load_row rfl _ rfl _ rfl cs0 hr1 hund rfl hsz0 ?_) | fail)
    refine (kF _).mono ?_
    rintro e W2 ⟨rfl, hB2⟩
    go_wp2_with fail
    go_ret
    exact ⟨rfl, Below.then h1.bl hB2⟩
  rw [hf] at kF
  go_wp2_with (first | (refine wpList_load_row rfl _ rfl _ rfl cs0 hr1 hund rfl hsz0 ?_) | fail)
  refine (kF _).mono ?_
  rintro e W2 ⟨rfl, hB2⟩
  have h2 := h1.then hB2
  have hr2 := h2.b1.range
  clear h1 hB2 hr1 kF
  cases hf2 : fewN o
  · rw [hf2] at kF2
    go_wp2_with (first | (refine wpList_load_rowg (by first | rfl | simp [Region.wanted, yielded]) _ rfl _ rfl ds hr2 hund rfl hszo ?_) | fail)
    refine (kF2 _).mono ?_
    rintro e W3 ⟨rfl, hB3⟩
    go_wp2_with fail
    go_ret
    exact ⟨rfl, Below.then h2.bl hB3⟩
  rw [hf2] at kF2
  go_wp2_with (first | (refine wpList_load_rowg (by first | rfl | simp [Region.wanted, yielded]) _ rfl _ rfl ds hr2 hund rfl hszo ?_) | fail)
  refine (kF2 _).mono ?_
  rintro e W3 ⟨rfl, hB3⟩
  have h3 := h2.then hB3
  clear h2 hB3 hr2 kF2
  replace kS := kS hf hf2
  replace kR := kR hf
  replace kT := kT hf
  have hPl := plain_Plain hf hws
  have hlens : (plainN n).acl.length < 40 ∧ (plainN n).words.length < 100 := by
    have h1 : n.path.size < 1000 ∧ n.acl.length < 40 ∧ n.words.length < 100 := by simpa [fewN] using hf
    have h2 := plainG_len n.acl
    exact ⟨by show (plainG n.acl).length < 40; omega, by show n.words.length < 100; omega⟩
  replace kP := kP hf hsz
  clear hf hf2
  obtain ⟨b, hb⟩ : ∃ b, nodEq n o = b := ⟨_, rfl⟩
  have hnn : nodEq n n = true := nodEq_iff.2 rfl
  simp only [hb] at kS kR
  simp only [hnn] at kT
  have hbb : (b != b) = false := by simp
  clear hb hnn
  have hS0 : TwoL w W3.drew cs0 ds := h3.drew
  go_wp2_with fail
  refine wp_region_held_drew (S := (fun W => TwoL w W cs0 ds)) (by kernel_rfl) (by first | exact hS3 | exact hS2 | exact hS1 | exact hS0) ?_
  intro hHeld
  first | (refine wpAnyH_take (i := 0) (v := _) (by simp only [List.getElem?_toArray, List.getElem?_cons_zero, List.getElem?_cons_succ]; rfl) (by kernel_rfl) (by kernel_rfl) (by kernel_rfl) (by exact fun _ _ _ h => h) (yields_row (by rfl) _ rfl _ rfl cs0 (fun _ h => h.b0.range) hund rfl hsz0) (by assumption) ?_; simp only [Act.put, List.setIfInBounds_toArray, List.set_cons_zero, List.set_cons_succ, hbb, Bool.not_true, Bool.not_false, Bool.or_true, Bool.or_false, Bool.true_or, Bool.false_or]) | (refine wpAnyH_take (i := 0) (v := undef) (by simp only [List.getElem?_toArray, List.getElem?_cons_zero, List.getElem?_cons_succ]; rfl) (by kernel_rfl) (by kernel_rfl) (by kernel_rfl) (by exact fun _ _ _ h => h) (Or.inr ⟨by rfl, rfl⟩) (by assumption) ?_; simp only [Act.put, List.setIfInBounds_toArray, List.set_cons_zero, List.set_cons_succ, hbb, Bool.not_true, Bool.not_false, Bool.or_true, Bool.or_false, Bool.true_or, Bool.false_or]) | fail
  first | (refine wpAnyH_take (i := 1) (v := _) (by simp only [List.getElem?_toArray, List.getElem?_cons_zero, List.getElem?_cons_succ]; rfl) (by kernel_rfl) (by kernel_rfl) (by kernel_rfl) (by exact fun _ _ _ h => h) (yields_row (by rfl) _ rfl _ rfl ds (fun _ h => h.b1.range) hund rfl hszo) (by assumption) ?_; simp only [Act.put, List.setIfInBounds_toArray, List.set_cons_zero, List.set_cons_succ, hbb, Bool.not_true, Bool.not_false, Bool.or_true, Bool.or_false, Bool.true_or, Bool.false_or]) | (refine wpAnyH_take (i := 1) (v := undef) (by simp only [List.getElem?_toArray, List.getElem?_cons_zero, List.getElem?_cons_succ]; rfl) (by kernel_rfl) (by kernel_rfl) (by kernel_rfl) (by exact fun _ _ _ h => h) (Or.inr ⟨by rfl, rfl⟩) (by assumption) ?_; simp only [Act.put, List.setIfInBounds_toArray, List.set_cons_zero, List.set_cons_succ, hbb, Bool.not_true, Bool.not_false, Bool.or_true, Bool.or_false, Bool.true_or, Bool.false_or]) | fail
  first | (refine wpAnyH_take (i := 3) (v := _) (by simp only [List.getElem?_toArray, List.getElem?_cons_zero, List.getElem?_cons_succ]; rfl) (by kernel_rfl) (by kernel_rfl) (by kernel_rfl) (by exact fun _ _ _ h => h) (yields_row (by rfl) _ rfl _ rfl cs0 (fun _ h => h.b0.range) hund rfl hsz0) (by assumption) ?_; simp only [Act.put, List.setIfInBounds_toArray, List.set_cons_zero, List.set_cons_succ, hbb, Bool.not_true, Bool.not_false, Bool.or_true, Bool.or_false, Bool.true_or, Bool.false_or]) | (refine wpAnyH_take (i := 3) (v := undef) (by simp only [List.getElem?_toArray, List.getElem?_cons_zero, List.getElem?_cons_succ]; rfl) (by kernel_rfl) (by kernel_rfl) (by kernel_rfl) (by exact fun _ _ _ h => h) (Or.inr ⟨by rfl, rfl⟩) (by assumption) ?_; simp only [Act.put, List.setIfInBounds_toArray, List.set_cons_zero, List.set_cons_succ, hbb, Bool.not_true, Bool.not_false, Bool.or_true, Bool.or_false, Bool.true_or, Bool.false_or]) | fail
  first | (refine wpAnyH_take (i := 4) (v := _) (by simp only [List.getElem?_toArray, List.getElem?_cons_zero, List.getElem?_cons_succ]; rfl) (by kernel_rfl) (by kernel_rfl) (by kernel_rfl) (by exact fun _ _ _ h => h) (yields_row (by rfl) _ rfl _ rfl ds (fun _ h => h.b1.range) hund rfl hszo) (by assumption) ?_; simp only [Act.put, List.setIfInBounds_toArray, List.set_cons_zero, List.set_cons_succ, hbb, Bool.not_true, Bool.not_false, Bool.or_true, Bool.or_false, Bool.true_or, Bool.false_or]) | (refine wpAnyH_take (i := 4) (v := undef) (by simp only [List.getElem?_toArray, List.getElem?_cons_zero, List.getElem?_cons_succ]; rfl) (by kernel_rfl) (by kernel_rfl) (by kernel_rfl) (by exact fun _ _ _ h => h) (Or.inr ⟨by rfl, rfl⟩) (by assumption) ?_; simp only [Act.put, List.setIfInBounds_toArray, List.set_cons_zero, List.set_cons_succ, hbb, Bool.not_true, Bool.not_false, Bool.or_true, Bool.or_false, Bool.true_or, Bool.false_or]) | fail
  first | (refine wpAnyH_take (i := 2) (v := undef) (by simp only [List.getElem?_toArray, List.getElem?_cons_zero, List.getElem?_cons_succ]; rfl) (by kernel_rfl) (by kernel_rfl) (by kernel_rfl) (by exact fun _ _ _ h => h) (Or.inr ⟨by rfl, rfl⟩) (by assumption) ?_; simp only [Act.put, List.setIfInBounds_toArray, List.set_cons_zero, List.set_cons_succ, hbb, Bool.not_true, Bool.not_false, Bool.or_true, Bool.or_false, Bool.true_or, Bool.false_or]) | (refine wpAnyH_ready (rs := [2]) (by kernel_rfl) (by simp) ?_; refine AllReadyH.cons (by simp only [List.getElem?_toArray, List.getElem?_cons_zero, List.getElem?_cons_succ]; rfl) (fun K hK => ?_) AllReadyH.nil; go_simp; (first | (go_at_call 10; refine (kT _ hS2.bl).mono ?_; rintro e w7 ⟨rfl, hB7⟩; have hS3 : TwoL w w7 cs0 ds := hS2.then hB7) | (go_at_call 11; refine (kR _ hS1.bl).mono ?_; rintro e w6 ⟨rfl, hB6⟩; have hS2 : TwoL w w6 cs0 ds := hS1.then hB6) | (go_at_call 10; refine (kS _ hS0.bl).mono ?_; rintro e w5 ⟨rfl, hB5⟩; have hS1 : TwoL w w5 cs0 ds := hS0.then hB5)); refine hK.out _ _ (by first | exact hS3 | exact hS2 | exact hS1 | exact hS0) ?_; clear hHeld hK; intro hHeld; (try simp only [Act.put, List.setIfInBounds_toArray, List.set_cons_zero, List.set_cons_succ, hbb, Bool.not_true, Bool.not_false, Bool.or_true, Bool.or_false, Bool.true_or, Bool.false_or])) | fail
  first | (refine wpAnyH_take (i := 5) (v := undef) (by simp only [List.getElem?_toArray, List.getElem?_cons_zero, List.getElem?_cons_succ]; rfl) (by kernel_rfl) (by kernel_rfl) (by kernel_rfl) (by exact fun _ _ _ h => h) (Or.inr ⟨by rfl, rfl⟩) (by assumption) ?_; simp only [Act.put, List.setIfInBounds_toArray, List.set_cons_zero, List.set_cons_succ, hbb, Bool.not_true, Bool.not_false, Bool.or_true, Bool.or_false, Bool.true_or, Bool.false_or]) | (refine wpAnyH_ready (rs := [5]) (by kernel_rfl) (by simp) ?_; refine AllReadyH.cons (by simp only [List.getElem?_toArray, List.getElem?_cons_zero, List.getElem?_cons_succ]; rfl) (fun K hK => ?_) AllReadyH.nil; go_simp; (first | (go_at_call 10; refine (kT _ hS2.bl).mono ?_; rintro e w7 ⟨rfl, hB7⟩; have hS3 : TwoL w w7 cs0 ds := hS2.then hB7) | (go_at_call 11; refine (kR _ hS1.bl).mono ?_; rintro e w6 ⟨rfl, hB6⟩; have hS2 : TwoL w w6 cs0 ds := hS1.then hB6) | (go_at_call 10; refine (kS _ hS0.bl).mono ?_; rintro e w5 ⟨rfl, hB5⟩; have hS1 : TwoL w w5 cs0 ds := hS0.then hB5)); refine hK.out _ _ (by first | exact hS3 | exact hS2 | exact hS1 | exact hS0) ?_; clear hHeld hK; intro hHeld; (try simp only [Act.put, List.setIfInBounds_toArray, List.set_cons_zero, List.set_cons_succ, hbb, Bool.not_true, Bool.not_false, Bool.or_true, Bool.or_false, Bool.true_or, Bool.false_or])) | fail
  first | (refine wpAnyH_take (i := 6) (v := ?_) (by simp only [List.getElem?_toArray, List.getElem?_cons_zero, List.getElem?_cons_succ]; rfl) (by kernel_rfl) (by kernel_rfl) (by kernel_rfl) (by exact fun _ _ _ h => h) (Or.inl ⟨by rfl, ?_⟩) (by assumption) ?_; rotate_left; (focus (intro w hSw; (try dsimp only at hSw); go_simp; try with_reducible rfl)); simp only [Act.put, List.setIfInBounds_toArray, List.set_cons_zero, List.set_cons_succ, hbb, Bool.not_true, Bool.not_false, Bool.or_true, Bool.or_false, Bool.true_or, Bool.false_or]) | (refine wpAnyH_take (i := 6) (v := undef) (by simp only [List.getElem?_toArray, List.getElem?_cons_zero, List.getElem?_cons_succ]; rfl) (by kernel_rfl) (by kernel_rfl) (by kernel_rfl) (by exact fun _ _ _ h => h) (Or.inr ⟨by rfl, rfl⟩) (by assumption) ?_; simp only [Act.put, List.setIfInBounds_toArray, List.set_cons_zero, List.set_cons_succ, hbb, Bool.not_true, Bool.not_false, Bool.or_true, Bool.or_false, Bool.true_or, Bool.false_or]) | fail
  first | (refine wpAnyH_take (i := 7) (v := ?_) (by simp only [List.getElem?_toArray, List.getElem?_cons_zero, List.getElem?_cons_succ]; rfl) (by kernel_rfl) (by kernel_rfl) (by kernel_rfl) (by exact fun _ _ _ h => h) (Or.inl ⟨by rfl, ?_⟩) (by assumption) ?_; rotate_left; (focus (intro w hSw; (try dsimp only at hSw); go_simp; try with_reducible rfl)); simp only [Act.put, List.setIfInBounds_toArray, List.set_cons_zero, List.set_cons_succ, hbb, Bool.not_true, Bool.not_false, Bool.or_true, Bool.or_false, Bool.true_or, Bool.false_or]) | (refine wpAnyH_take (i := 7) (v := undef) (by simp only [List.getElem?_toArray, List.getElem?_cons_zero, List.getElem?_cons_succ]; rfl) (by kernel_rfl) (by kernel_rfl) (by kernel_rfl) (by exact fun _ _ _ h => h) (Or.inr ⟨by rfl, rfl⟩) (by assumption) ?_; simp only [Act.put, List.setIfInBounds_toArray, List.set_cons_zero, List.set_cons_succ, hbb, Bool.not_true, Bool.not_false, Bool.or_true, Bool.or_false, Bool.true_or, Bool.false_or]) | fail
  first | (refine wpAnyH_take (i := 8) (v := _) (by simp only [List.getElem?_toArray, List.getElem?_cons_zero, List.getElem?_cons_succ]; rfl) (by kernel_rfl) (by kernel_rfl) (by kernel_rfl) (by exact fun _ _ _ h => h) (yields_row (by rfl) _ rfl _ rfl cs0 (fun _ h => h.b0.range) hund rfl hsz0) (by assumption) ?_; simp only [Act.put, List.setIfInBounds_toArray, List.set_cons_zero, List.set_cons_succ, hbb, Bool.not_true, Bool.not_false, Bool.or_true, Bool.or_false, Bool.true_or, Bool.false_or]) | (refine wpAnyH_take (i := 8) (v := undef) (by simp only [List.getElem?_toArray, List.getElem?_cons_zero, List.getElem?_cons_succ]; rfl) (by kernel_rfl) (by kernel_rfl) (by kernel_rfl) (by exact fun _ _ _ h => h) (Or.inr ⟨by rfl, rfl⟩) (by assumption) ?_; simp only [Act.put, List.setIfInBounds_toArray, List.set_cons_zero, List.set_cons_succ, hbb, Bool.not_true, Bool.not_false, Bool.or_true, Bool.or_false, Bool.true_or, Bool.false_or]) | fail
  first | (refine wpAnyH_take (i := 9) (v := _) (by simp only [List.getElem?_toArray, List.getElem?_cons_zero, List.getElem?_cons_succ]; rfl) (by kernel_rfl) (by kernel_rfl) (by kernel_rfl) (by exact fun _ _ _ h => h) (yields_row (by rfl) _ rfl _ rfl cs0 (fun _ h => h.b0.range) hund rfl hsz0) (by assumption) ?_; simp only [Act.put, List.setIfInBounds_toArray, List.set_cons_zero, List.set_cons_succ, hbb, Bool.not_true, Bool.not_false, Bool.or_true, Bool.or_false, Bool.true_or, Bool.false_or]) | (refine wpAnyH_take (i := 9) (v := undef) (by simp only [List.getElem?_toArray, List.getElem?_cons_zero, List.getElem?_cons_succ]; rfl) (by kernel_rfl) (by kernel_rfl) (by kernel_rfl) (by exact fun _ _ _ h => h) (Or.inr ⟨by rfl, rfl⟩) (by assumption) ?_; simp only [Act.put, List.setIfInBounds_toArray, List.set_cons_zero, List.set_cons_succ, hbb, Bool.not_true, Bool.not_false, Bool.or_true, Bool.or_false, Bool.true_or, Bool.false_or]) | fail
  first | (refine wpAnyH_take (i := 10) (v := undef) (by simp only [List.getElem?_toArray, List.getElem?_cons_zero, List.getElem?_cons_succ]; rfl) (by kernel_rfl) (by kernel_rfl) (by kernel_rfl) (by exact fun _ _ _ h => h) (Or.inr ⟨by rfl, rfl⟩) (by assumption) ?_; simp only [Act.put, List.setIfInBounds_toArray, List.set_cons_zero, List.set_cons_succ, hbb, Bool.not_true, Bool.not_false, Bool.or_true, Bool.or_false, Bool.true_or, Bool.false_or]) | (refine wpAnyH_ready (rs := [10]) (by kernel_rfl) (by simp) ?_; refine AllReadyH.cons (by simp only [List.getElem?_toArray, List.getElem?_cons_zero, List.getElem?_cons_succ]; rfl) (fun K hK => ?_) AllReadyH.nil; go_simp; (first | (go_at_call 10; refine (kT _ hS2.bl).mono ?_; rintro e w7 ⟨rfl, hB7⟩; have hS3 : TwoL w w7 cs0 ds := hS2.then hB7) | (go_at_call 11; refine (kR _ hS1.bl).mono ?_; rintro e w6 ⟨rfl, hB6⟩; have hS2 : TwoL w w6 cs0 ds := hS1.then hB6) | (go_at_call 10; refine (kS _ hS0.bl).mono ?_; rintro e w5 ⟨rfl, hB5⟩; have hS1 : TwoL w w5 cs0 ds := hS0.then hB5)); refine hK.out _ _ (by first | exact hS3 | exact hS2 | exact hS1 | exact hS0) ?_; clear hHeld hK; intro hHeld; (try simp only [Act.put, List.setIfInBounds_toArray, List.set_cons_zero, List.set_cons_succ, hbb, Bool.not_true, Bool.not_false, Bool.or_true, Bool.or_false, Bool.true_or, Bool.false_or])) | fail
  first | (refine wpAnyH_take (i := 11) (v := ?_) (by simp only [List.getElem?_toArray, List.getElem?_cons_zero, List.getElem?_cons_succ]; rfl) (by kernel_rfl) (by kernel_rfl) (by kernel_rfl) (by exact fun _ _ _ h => h) (Or.inl ⟨by rfl, ?_⟩) (by assumption) ?_; rotate_left; (focus (intro w hSw; (try dsimp only at hSw); go_simp; try with_reducible rfl)); simp only [Act.put, List.setIfInBounds_toArray, List.set_cons_zero, List.set_cons_succ, hbb, Bool.not_true, Bool.not_false, Bool.or_true, Bool.or_false, Bool.true_or, Bool.false_or]) | (refine wpAnyH_take (i := 11) (v := undef) (by simp only [List.getElem?_toArray, List.getElem?_cons_zero, List.getElem?_cons_succ]; rfl) (by kernel_rfl) (by kernel_rfl) (by kernel_rfl) (by exact fun _ _ _ h => h) (Or.inr ⟨by rfl, rfl⟩) (by assumption) ?_; simp only [Act.put, List.setIfInBounds_toArray, List.set_cons_zero, List.set_cons_succ, hbb, Bool.not_true, Bool.not_false, Bool.or_true, Bool.or_false, Bool.true_or, Bool.false_or]) | fail
  first | (refine wpAnyH_take (i := 12) (v := ?_) (by simp only [List.getElem?_toArray, List.getElem?_cons_zero, List.getElem?_cons_succ]; rfl) (by kernel_rfl) (by kernel_rfl) (by kernel_rfl) (by exact fun _ _ _ h => h) (Or.inl ⟨by rfl, ?_⟩) (by assumption) ?_; rotate_left; (focus (intro w hSw; (try dsimp only at hSw); go_simp; try with_reducible rfl)); simp only [Act.put, List.setIfInBounds_toArray, List.set_cons_zero, List.set_cons_succ, hbb, Bool.not_true, Bool.not_false, Bool.or_true, Bool.or_false, Bool.true_or, Bool.false_or]) | (refine wpAnyH_take (i := 12) (v := undef) (by simp only [List.getElem?_toArray, List.getElem?_cons_zero, List.getElem?_cons_succ]; rfl) (by kernel_rfl) (by kernel_rfl) (by kernel_rfl) (by exact fun _ _ _ h => h) (Or.inr ⟨by rfl, rfl⟩) (by assumption) ?_; simp only [Act.put, List.setIfInBounds_toArray, List.set_cons_zero, List.set_cons_succ, hbb, Bool.not_true, Bool.not_false, Bool.or_true, Bool.or_false, Bool.true_or, Bool.false_or]) | fail
  refine wpAnyH_done (by kernel_rfl) ?_ _
  have hS3k := hS3
  have hr7 := hS3.b0.range
  have kP' := kP _ (hG.below hS3.bl)
  clear kS kR kT kP hbb hS0 hS1 hS2 h3 hB5 hB6 hB7 hszo
  go_wp2_with (first | (refine wpList_load_row rfl _ rfl _ rfl cs0 hr7 hund rfl hsz0 ?_) | fail)
  refine kP'.mono ?_
  rintro e W8 ⟨ap, cp, rfl, hGp, hnew, hB8⟩
  have hS8 := hS3.then hB8
  have hlt3 := hS3.lt
  clear kP' hr7 hS3 hS3k
  obtain ⟨P, hP⟩ : ∃ P, plainN n = P := ⟨_, rfl⟩
  simp only [hP] at hGp hPl hlens ⊢
  obtain ⟨cs1, hcs1⟩ : ∃ cs1, nl P (.slice ap P.acl.length cp) (.slice wa P.words.length cw) = cs1 := ⟨_, rfl⟩
  have hone := nl_one P ap wa P.acl.length cp P.words.length cw
  have hsz1 := nl_sz P (.slice ap P.acl.length cp) (.slice wa P.words.length cw)
  have kE := fun W => enc_nl P ap cp wa cw hPl W
  have kRE := fun W => renc_nl P ap cp wa cw hPl W
  have hle : cs0.length = cs1.length := by rw [hl0, ← hcs1]; rfl
  simp only [hcs1] at hone hsz1 kE kRE ⊢
  have hth : W8.there w.heap.size 0 cs1.length := by rw [← hle]; exact hS8.b0.there
  have hb9 := hS8.b0.setAll hle
  have hB9 := Below.cells (Nat.le_refl _) cs1 0 (Below.refl w.heap.size W8)
  have hl9 : w.heap.size < (W8.setCells w.heap.size 0 cs1).heap.size := Nat.lt_of_lt_of_le (by have := hS8.lt; omega) hB9.size
  have hB09 := hS8.bl.trans hB9
  have hG9 : GrsAt (W8.setCells w.heap.size 0 cs1) ap P.acl := hGp.far fun y hy => heap_setCells_other (fun q => by have := hnew.1 y hy; omega) cs1 0 W8
  have hW9 : WrdsAt (W8.setCells w.heap.size 0 cs1) wa P.words := by
    rw [← hP]
    exact hW.below hB09
  obtain ⟨W9, hW9e⟩ : ∃ W9, W8.setCells w.heap.size 0 cs1 = W9 := ⟨_, rfl⟩
  rw [hW9e] at hb9 hl9 hB09 hG9 hW9
  have hr9 := hb9.range
  have kE' := kE W9 hG9 hW9
  have hback := nod_back P hPl
  have hlen := encN_sum P
  have hgi := gsum_le (l := P.acl) (fun g hg => (hPl.g g hg).1) P.acl.length (Nat.le_refl _)
  have hpp := hPl.p
  have hlb : (encN P).length < 900000 := by omega
  clear hGp hnew hB8 hS8 hlt3 hB9 hP hsz0 hlen hgi hpp
  go_wp2_with (first | (refine wpList_store_row rfl _ _ rfl _ rfl cs1 rfl hth hsz1 hone hW9e ?_) | (refine wpList_load_row rfl _ rfl _ rfl cs1 hr9 hund rfl hsz1 ?_) | fail)
  refine kE'.mono ?_
  clear kE' hth hone hW9e hle hr9
  obtain ⟨l, hl⟩ : ∃ l, encN P = l := ⟨_, rfl⟩
  simp only [hl] at hback hlb kRE ⊢
  obtain ⟨m, hm⟩ : ∃ m, l.length = m := ⟨_, rfl⟩
  simp only [hm] at hlb kRE ⊢
  rintro e W10 ⟨a, cap, rfl, -, hmc, hac, hby, hB10⟩
  have hG10 := hG9.below hB10
  have hW10 := hW9.below hB10
  have hb10 := hb9.same (hB10.block _ hl9)
  have hl10 := Nat.lt_of_lt_of_le hl9 hB10.size
  have hB010 := Below.then hB09 hB10
  have kN := par_nl a m cap l (by omega) hmc W10 hby
  rw [hback.1, hback.2] at kN
  clear hG9 hW9 hb9 hl9 hB09 hB10 hback
  go_wp2_with fail
  refine kN.mono ?_
  rintro e W11 ⟨xa, xc, ya, yc, rfl, hGx, hWx, hB11⟩
  obtain ⟨cs2, hcs2⟩ : ∃ cs2, nl P (.slice xa P.acl.length xc) (.slice ya P.words.length yc) = cs2 := ⟨_, rfl⟩
  have hone2 := nl_one P xa ya P.acl.length xc P.words.length yc
  have hsz2 := nl_sz P (.slice xa P.acl.length xc) (.slice ya P.words.length yc)
  have kQ := fun W => rsame_nl P P xa xc ya yc ap cp wa cw (by omega) (by omega) W
  have hnn : nodEq P P = true := nodEq_iff.2 rfl
  have h16 : cs2.length = 16 := by rw [← hcs2]; rfl
  simp only [hcs2, hcs1, hnn] at hone2 hsz2 kQ ⊢
  clear hcs2 hcs1 hnn
  have hth := blk_zero W11 cs2 h16
  have hBa := alloc_below W11 (.cells nzero.toArray 29)
  have hB12 : Below W11.heap.size W11 ((W11.alloc (.cells nzero.toArray 29)).setCells W11.heap.size 0 cs2) := Below.cells (Nat.le_refl _) cs2 0 hBa
  have hbx : Blk ((W11.alloc (.cells nzero.toArray 29)).setCells W11.heap.size 0 cs2) W11.heap.size cs2 := (blk_alloc W11 nzero.toArray 29).setAll (by rw [h16]; rfl)
  obtain ⟨W12, hW12⟩ : ∃ W12, (W11.alloc (.cells nzero.toArray 29)).setCells W11.heap.size 0 cs2 = W12 := ⟨_, rfl⟩
  rw [hW12] at hB12 hbx
  have hlx : W11.heap.size < W12.heap.size := by
    obtain ⟨v, hv⟩ : ∃ v, cs2[0]? = some v := ⟨_, List.getElem?_eq_getElem (by omega)⟩
    exact hbx.lt hv
  have hB1012 := Below.then hB11 hB12
  have hX : SX w W12 P ap wa xa ya a m l W11.heap.size cs1 cs2 := ⟨hb10.same (hB1012.block _ hl10), hbx, hby.below hB1012, hG10.below hB1012, hW10.below hB1012, hGx.below hB12, hWx.below hB12, Below.then hB010 hB1012, Nat.lt_of_lt_of_le hl10 hB1012.size, hlx⟩
  clear kN hBa hB12 hbx hlx hB1012 hb10 hby hG10 hW10 hGx hWx hB010 hl10 hB11
  go_wp2_with (first | (refine wpList_store_row rfl _ _ rfl _ rfl cs2 rfl hth hsz2 hone2 hW12 ?_) | fail)
  clear hth hW12 hone2 h16
  generalize W11.heap.size = gx at *
  have hS0 := hX.drew
  have hct : ∀ W, SX w W P ap wa xa ya a m l gx cs1 cs2 → (convert 34 9 (.slice a m cap)).run Try.prog W = .ok (.string ⟨l.toArray⟩) W := fun W h => bytes_text h.by_ hac
  refine wp_region_held_drew (S := (fun W => SX w W P ap wa xa ya a m l gx cs1 cs2)) (by kernel_rfl) (by first | exact hS2 | exact hS1 | exact hS0) ?_
  intro hHeld
  first | (refine wpAnyH_take (i := 0) (v := ?_) (by simp only [List.getElem?_toArray, List.getElem?_cons_zero, List.getElem?_cons_succ]; rfl) (by kernel_rfl) (by kernel_rfl) (by kernel_rfl) (by exact fun _ _ _ h => h) (Or.inl ⟨by rfl, ?_⟩) (by assumption) ?_; rotate_left; (focus (intro w hSw; (try dsimp only at hSw); go_simp; try with_reducible rfl)); simp only [Act.put, List.setIfInBounds_toArray, List.set_cons_zero, List.set_cons_succ, Bool.not_true, Bool.not_false, Bool.or_true, Bool.or_false, Bool.true_or, Bool.false_or, BEq.rfl]) | (refine wpAnyH_take (i := 0) (v := undef) (by simp only [List.getElem?_toArray, List.getElem?_cons_zero, List.getElem?_cons_succ]; rfl) (by kernel_rfl) (by kernel_rfl) (by kernel_rfl) (by exact fun _ _ _ h => h) (Or.inr ⟨by rfl, rfl⟩) (by assumption) ?_; simp only [Act.put, List.setIfInBounds_toArray, List.set_cons_zero, List.set_cons_succ, Bool.not_true, Bool.not_false, Bool.or_true, Bool.or_false, Bool.true_or, Bool.false_or, BEq.rfl]) | fail
  first | (refine wpAnyH_take (i := 1) (v := _) (by simp only [List.getElem?_toArray, List.getElem?_cons_zero, List.getElem?_cons_succ]; rfl) (by kernel_rfl) (by kernel_rfl) (by kernel_rfl) (by exact fun _ _ _ h => h) (yields_conv (by rfl) _ rfl rfl hct) (by assumption) ?_; simp only [Act.put, List.setIfInBounds_toArray, List.set_cons_zero, List.set_cons_succ, Bool.not_true, Bool.not_false, Bool.or_true, Bool.or_false, Bool.true_or, Bool.false_or, BEq.rfl]) | (refine wpAnyH_take (i := 1) (v := undef) (by simp only [List.getElem?_toArray, List.getElem?_cons_zero, List.getElem?_cons_succ]; rfl) (by kernel_rfl) (by kernel_rfl) (by kernel_rfl) (by exact fun _ _ _ h => h) (Or.inr ⟨by rfl, rfl⟩) (by assumption) ?_; simp only [Act.put, List.setIfInBounds_toArray, List.set_cons_zero, List.set_cons_succ, Bool.not_true, Bool.not_false, Bool.or_true, Bool.or_false, Bool.true_or, Bool.false_or, BEq.rfl]) | fail
  first | (refine wpAnyH_take (i := 2) (v := _) (by simp only [List.getElem?_toArray, List.getElem?_cons_zero, List.getElem?_cons_succ]; rfl) (by kernel_rfl) (by kernel_rfl) (by kernel_rfl) (by exact fun _ _ _ h => h) (yields_row (by rfl) _ rfl _ rfl cs1 (fun _ h => h.b0.range) hund rfl hsz1) (by assumption) ?_; simp only [Act.put, List.setIfInBounds_toArray, List.set_cons_zero, List.set_cons_succ, Bool.not_true, Bool.not_false, Bool.or_true, Bool.or_false, Bool.true_or, Bool.false_or, BEq.rfl]) | (refine wpAnyH_take (i := 2) (v := undef) (by simp only [List.getElem?_toArray, List.getElem?_cons_zero, List.getElem?_cons_succ]; rfl) (by kernel_rfl) (by kernel_rfl) (by kernel_rfl) (by exact fun _ _ _ h => h) (Or.inr ⟨by rfl, rfl⟩) (by assumption) ?_; simp only [Act.put, List.setIfInBounds_toArray, List.set_cons_zero, List.set_cons_succ, Bool.not_true, Bool.not_false, Bool.or_true, Bool.or_false, Bool.true_or, Bool.false_or, BEq.rfl]) | fail
  first | (refine wpAnyH_take (i := 3) (v := undef) (by simp only [List.getElem?_toArray, List.getElem?_cons_zero, List.getElem?_cons_succ]; rfl) (by kernel_rfl) (by kernel_rfl) (by kernel_rfl) (by exact fun _ _ _ h => h) (Or.inr ⟨by rfl, rfl⟩) (by assumption) ?_; simp only [Act.put, List.setIfInBounds_toArray, List.set_cons_zero, List.set_cons_succ, Bool.not_true, Bool.not_false, Bool.or_true, Bool.or_false, Bool.true_or, Bool.false_or, BEq.rfl]) | (refine wpAnyH_ready (rs := [3]) (by kernel_rfl) (by simp) ?_; refine AllReadyH.cons (by simp only [List.getElem?_toArray, List.getElem?_cons_zero, List.getElem?_cons_succ]; rfl) (fun K hK => ?_) AllReadyH.nil; go_simp; (first | (go_at_call 11; refine (kQ _ hS1.g2 hS1.g1 hS1.w2 hS1.w1).mono ?_; rintro e w6 ⟨rfl, hB6⟩; have hS2 : SX w w6 P ap wa xa ya a m l gx cs1 cs2 := hS1.then hB6) | (go_at_call 15; refine (kRE _ hS0.g1 hS0.w1).mono ?_; rintro e w5 ⟨a2, cap2, rfl, -, -, hac2, hby2, hB5⟩; have hS1 : SX w w5 P ap wa xa ya a m l gx cs1 cs2 := hS0.then hB5; have hct2 := bytes_text hby2 hac2)); refine hK.out _ _ (by first | exact hS2 | exact hS1 | exact hS0) ?_; clear hHeld hK; intro hHeld; (try simp only [Act.put, List.setIfInBounds_toArray, List.set_cons_zero, List.set_cons_succ, Bool.not_true, Bool.not_false, Bool.or_true, Bool.or_false, Bool.true_or, Bool.false_or, BEq.rfl])) | fail
  refine wpAnyH_ready (rs := [4]) (by kernel_rfl) (by simp) ?_; refine AllReadyH.cons (by simp only [List.getElem?_toArray, List.getElem?_cons_zero, List.getElem?_cons_succ]; rfl) (fun K hK => ?_) AllReadyH.nil; go_simp; refine hK.out _ _ (by first | exact hS2 | exact hS1 | exact hS0) ?_; clear hHeld hK; intro hHeld; (try simp only [Act.put, List.setIfInBounds_toArray, List.set_cons_zero, List.set_cons_succ, Bool.not_true, Bool.not_false, Bool.or_true, Bool.or_false, Bool.true_or, Bool.false_or, BEq.rfl])
  first | (refine wpAnyH_take (i := 5) (v := ?_) (by simp only [List.getElem?_toArray, List.getElem?_cons_zero, List.getElem?_cons_succ]; rfl) (by kernel_rfl) (by kernel_rfl) (by kernel_rfl) (by exact fun _ _ _ h => h) (Or.inl ⟨by rfl, ?_⟩) (by assumption) ?_; rotate_left; (focus (intro w hSw; (try dsimp only at hSw); go_simp; try with_reducible rfl)); simp only [Act.put, List.setIfInBounds_toArray, List.set_cons_zero, List.set_cons_succ, Bool.not_true, Bool.not_false, Bool.or_true, Bool.or_false, Bool.true_or, Bool.false_or, BEq.rfl]) | (refine wpAnyH_take (i := 5) (v := undef) (by simp only [List.getElem?_toArray, List.getElem?_cons_zero, List.getElem?_cons_succ]; rfl) (by kernel_rfl) (by kernel_rfl) (by kernel_rfl) (by exact fun _ _ _ h => h) (Or.inr ⟨by rfl, rfl⟩) (by assumption) ?_; simp only [Act.put, List.setIfInBounds_toArray, List.set_cons_zero, List.set_cons_succ, Bool.not_true, Bool.not_false, Bool.or_true, Bool.or_false, Bool.true_or, Bool.false_or, BEq.rfl]) | fail
  first | (refine wpAnyH_take (i := 6) (v := ?_) (by simp only [List.getElem?_toArray, List.getElem?_cons_zero, List.getElem?_cons_succ]; rfl) (by kernel_rfl) (by kernel_rfl) (by kernel_rfl) (by exact fun _ _ _ h => h) (Or.inl ⟨by rfl, ?_⟩) (by assumption) ?_; rotate_left; (focus (intro w hSw; (try dsimp only at hSw); go_simp; try with_reducible rfl)); simp only [Act.put, List.setIfInBounds_toArray, List.set_cons_zero, List.set_cons_succ, Bool.not_true, Bool.not_false, Bool.or_true, Bool.or_false, Bool.true_or, Bool.false_or, BEq.rfl]) | (refine wpAnyH_take (i := 6) (v := undef) (by simp only [List.getElem?_toArray, List.getElem?_cons_zero, List.getElem?_cons_succ]; rfl) (by kernel_rfl) (by kernel_rfl) (by kernel_rfl) (by exact fun _ _ _ h => h) (Or.inr ⟨by rfl, rfl⟩) (by assumption) ?_; simp only [Act.put, List.setIfInBounds_toArray, List.set_cons_zero, List.set_cons_succ, Bool.not_true, Bool.not_false, Bool.or_true, Bool.or_false, Bool.true_or, Bool.false_or, BEq.rfl]) | fail
  first | (refine wpAnyH_take (i := 7) (v := ?_) (by simp only [List.getElem?_toArray, List.getElem?_cons_zero, List.getElem?_cons_succ]; rfl) (by kernel_rfl) (by kernel_rfl) (by kernel_rfl) (by exact fun _ _ _ h => h) (Or.inl ⟨by rfl, ?_⟩) (by assumption) ?_; rotate_left; (focus (intro w hSw; (try dsimp only at hSw); go_simp; try with_reducible rfl)); simp only [Act.put, List.setIfInBounds_toArray, List.set_cons_zero, List.set_cons_succ, Bool.not_true, Bool.not_false, Bool.or_true, Bool.or_false, Bool.true_or, Bool.false_or, BEq.rfl]) | (refine wpAnyH_take (i := 7) (v := undef) (by simp only [List.getElem?_toArray, List.getElem?_cons_zero, List.getElem?_cons_succ]; rfl) (by kernel_rfl) (by kernel_rfl) (by kernel_rfl) (by exact fun _ _ _ h => h) (Or.inr ⟨by rfl, rfl⟩) (by assumption) ?_; simp only [Act.put, List.setIfInBounds_toArray, List.set_cons_zero, List.set_cons_succ, Bool.not_true, Bool.not_false, Bool.or_true, Bool.or_false, Bool.true_or, Bool.false_or, BEq.rfl]) | fail
  first | (refine wpAnyH_take (i := 8) (v := ?_) (by simp only [List.getElem?_toArray, List.getElem?_cons_zero, List.getElem?_cons_succ]; rfl) (by kernel_rfl) (by kernel_rfl) (by kernel_rfl) (by exact fun _ _ _ h => h) (Or.inl ⟨by rfl, ?_⟩) (by assumption) ?_; rotate_left; (focus (intro w hSw; (try dsimp only at hSw); go_simp; try with_reducible rfl)); simp only [Act.put, List.setIfInBounds_toArray, List.set_cons_zero, List.set_cons_succ, Bool.not_true, Bool.not_false, Bool.or_true, Bool.or_false, Bool.true_or, Bool.false_or, BEq.rfl]) | (refine wpAnyH_take (i := 8) (v := undef) (by simp only [List.getElem?_toArray, List.getElem?_cons_zero, List.getElem?_cons_succ]; rfl) (by kernel_rfl) (by kernel_rfl) (by kernel_rfl) (by exact fun _ _ _ h => h) (Or.inr ⟨by rfl, rfl⟩) (by assumption) ?_; simp only [Act.put, List.setIfInBounds_toArray, List.set_cons_zero, List.set_cons_succ, Bool.not_true, Bool.not_false, Bool.or_true, Bool.or_false, Bool.true_or, Bool.false_or, BEq.rfl]) | fail
  first | (refine wpAnyH_take (i := 9) (v := ?_) (by simp only [List.getElem?_toArray, List.getElem?_cons_zero, List.getElem?_cons_succ]; rfl) (by kernel_rfl) (by kernel_rfl) (by kernel_rfl) (by exact fun _ _ _ h => h) (Or.inl ⟨by rfl, ?_⟩) (by assumption) ?_; rotate_left; (focus (intro w hSw; (try dsimp only at hSw); go_simp; try with_reducible rfl)); simp only [Act.put, List.setIfInBounds_toArray, List.set_cons_zero, List.set_cons_succ, Bool.not_true, Bool.not_false, Bool.or_true, Bool.or_false, Bool.true_or, Bool.false_or, BEq.rfl]) | (refine wpAnyH_take (i := 9) (v := undef) (by simp only [List.getElem?_toArray, List.getElem?_cons_zero, List.getElem?_cons_succ]; rfl) (by kernel_rfl) (by kernel_rfl) (by kernel_rfl) (by exact fun _ _ _ h => h) (Or.inr ⟨by rfl, rfl⟩) (by assumption) ?_; simp only [Act.put, List.setIfInBounds_toArray, List.set_cons_zero, List.set_cons_succ, Bool.not_true, Bool.not_false, Bool.or_true, Bool.or_false, Bool.true_or, Bool.false_or, BEq.rfl]) | fail
  first | (refine wpAnyH_take (i := 10) (v := ?_) (by simp only [List.getElem?_toArray, List.getElem?_cons_zero, List.getElem?_cons_succ]; rfl) (by kernel_rfl) (by kernel_rfl) (by kernel_rfl) (by exact fun _ _ _ h => h) (Or.inl ⟨by rfl, ?_⟩) (by assumption) ?_; rotate_left; (focus (intro w hSw; (try dsimp only at hSw); go_simp; try with_reducible rfl)); simp only [Act.put, List.setIfInBounds_toArray, List.set_cons_zero, List.set_cons_succ, Bool.not_true, Bool.not_false, Bool.or_true, Bool.or_false, Bool.true_or, Bool.false_or, BEq.rfl]) | (refine wpAnyH_take (i := 10) (v := undef) (by simp only [List.getElem?_toArray, List.getElem?_cons_zero, List.getElem?_cons_succ]; rfl) (by kernel_rfl) (by kernel_rfl) (by kernel_rfl) (by exact fun _ _ _ h => h) (Or.inr ⟨by rfl, rfl⟩) (by assumption) ?_; simp only [Act.put, List.setIfInBounds_toArray, List.set_cons_zero, List.set_cons_succ, Bool.not_true, Bool.not_false, Bool.or_true, Bool.or_false, Bool.true_or, Bool.false_or, BEq.rfl]) | fail
  first | (refine wpAnyH_take (i := 11) (v := _) (by simp only [List.getElem?_toArray, List.getElem?_cons_zero, List.getElem?_cons_succ]; rfl) (by kernel_rfl) (by kernel_rfl) (by kernel_rfl) (by exact fun _ _ _ h => h) (yields_row (by rfl) _ rfl _ rfl cs2 (fun _ h => h.bx.range) hund rfl hsz2) (by assumption) ?_; simp only [Act.put, List.setIfInBounds_toArray, List.set_cons_zero, List.set_cons_succ, Bool.not_true, Bool.not_false, Bool.or_true, Bool.or_false, Bool.true_or, Bool.false_or, BEq.rfl]) | (refine wpAnyH_take (i := 11) (v := undef) (by simp only [List.getElem?_toArray, List.getElem?_cons_zero, List.getElem?_cons_succ]; rfl) (by kernel_rfl) (by kernel_rfl) (by kernel_rfl) (by exact fun _ _ _ h => h) (Or.inr ⟨by rfl, rfl⟩) (by assumption) ?_; simp only [Act.put, List.setIfInBounds_toArray, List.set_cons_zero, List.set_cons_succ, Bool.not_true, Bool.not_false, Bool.or_true, Bool.or_false, Bool.true_or, Bool.false_or, BEq.rfl]) | fail
  first | (refine wpAnyH_take (i := 12) (v := _) (by simp only [List.getElem?_toArray, List.getElem?_cons_zero, List.getElem?_cons_succ]; rfl) (by kernel_rfl) (by kernel_rfl) (by kernel_rfl) (by exact fun _ _ _ h => h) (yields_row (by rfl) _ rfl _ rfl cs1 (fun _ h => h.b0.range) hund rfl hsz1) (by assumption) ?_; simp only [Act.put, List.setIfInBounds_toArray, List.set_cons_zero, List.set_cons_succ, Bool.not_true, Bool.not_false, Bool.or_true, Bool.or_false, Bool.true_or, Bool.false_or, BEq.rfl]) | (refine wpAnyH_take (i := 12) (v := undef) (by simp only [List.getElem?_toArray, List.getElem?_cons_zero, List.getElem?_cons_succ]; rfl) (by kernel_rfl) (by kernel_rfl) (by kernel_rfl) (by exact fun _ _ _ h => h) (Or.inr ⟨by rfl, rfl⟩) (by assumption) ?_; simp only [Act.put, List.setIfInBounds_toArray, List.set_cons_zero, List.set_cons_succ, Bool.not_true, Bool.not_false, Bool.or_true, Bool.or_false, Bool.true_or, Bool.false_or, BEq.rfl]) | fail
  first | (refine wpAnyH_take (i := 13) (v := undef) (by simp only [List.getElem?_toArray, List.getElem?_cons_zero, List.getElem?_cons_succ]; rfl) (by kernel_rfl) (by kernel_rfl) (by kernel_rfl) (by exact fun _ _ _ h => h) (Or.inr ⟨by rfl, rfl⟩) (by assumption) ?_; simp only [Act.put, List.setIfInBounds_toArray, List.set_cons_zero, List.set_cons_succ, Bool.not_true, Bool.not_false, Bool.or_true, Bool.or_false, Bool.true_or, Bool.false_or, BEq.rfl]) | (refine wpAnyH_ready (rs := [13]) (by kernel_rfl) (by simp) ?_; refine AllReadyH.cons (by simp only [List.getElem?_toArray, List.getElem?_cons_zero, List.getElem?_cons_succ]; rfl) (fun K hK => ?_) AllReadyH.nil; go_simp; (first | (go_at_call 11; refine (kQ _ hS1.g2 hS1.g1 hS1.w2 hS1.w1).mono ?_; rintro e w6 ⟨rfl, hB6⟩; have hS2 : SX w w6 P ap wa xa ya a m l gx cs1 cs2 := hS1.then hB6) | (go_at_call 15; refine (kRE _ hS0.g1 hS0.w1).mono ?_; rintro e w5 ⟨a2, cap2, rfl, -, -, hac2, hby2, hB5⟩; have hS1 : SX w w5 P ap wa xa ya a m l gx cs1 cs2 := hS0.then hB5; have hct2 := bytes_text hby2 hac2)); refine hK.out _ _ (by first | exact hS2 | exact hS1 | exact hS0) ?_; clear hHeld hK; intro hHeld; (try simp only [Act.put, List.setIfInBounds_toArray, List.set_cons_zero, List.set_cons_succ, Bool.not_true, Bool.not_false, Bool.or_true, Bool.or_false, Bool.true_or, Bool.false_or, BEq.rfl])) | fail
  first | (refine wpAnyH_take (i := 14) (v := ?_) (by simp only [List.getElem?_toArray, List.getElem?_cons_zero, List.getElem?_cons_succ]; rfl) (by kernel_rfl) (by kernel_rfl) (by kernel_rfl) (by exact fun _ _ _ h => h) (Or.inl ⟨by rfl, ?_⟩) (by assumption) ?_; rotate_left; (focus (intro w hSw; (try dsimp only at hSw); go_simp; try with_reducible rfl)); simp only [Act.put, List.setIfInBounds_toArray, List.set_cons_zero, List.set_cons_succ, Bool.not_true, Bool.not_false, Bool.or_true, Bool.or_false, Bool.true_or, Bool.false_or, BEq.rfl]) | (refine wpAnyH_take (i := 14) (v := undef) (by simp only [List.getElem?_toArray, List.getElem?_cons_zero, List.getElem?_cons_succ]; rfl) (by kernel_rfl) (by kernel_rfl) (by kernel_rfl) (by exact fun _ _ _ h => h) (Or.inr ⟨by rfl, rfl⟩) (by assumption) ?_; simp only [Act.put, List.setIfInBounds_toArray, List.set_cons_zero, List.set_cons_succ, Bool.not_true, Bool.not_false, Bool.or_true, Bool.or_false, Bool.true_or, Bool.false_or, BEq.rfl]) | fail
  first | (refine wpAnyH_take (i := 15) (v := ?_) (by simp only [List.getElem?_toArray, List.getElem?_cons_zero, List.getElem?_cons_succ]; rfl) (by kernel_rfl) (by kernel_rfl) (by kernel_rfl) (by exact fun _ _ _ h => h) (Or.inl ⟨by rfl, ?_⟩) (by assumption) ?_; rotate_left; (focus (intro w hSw; (try dsimp only at hSw); go_simp; try with_reducible rfl)); simp only [Act.put, List.setIfInBounds_toArray, List.set_cons_zero, List.set_cons_succ, Bool.not_true, Bool.not_false, Bool.or_true, Bool.or_false, Bool.true_or, Bool.false_or, BEq.rfl]) | (refine wpAnyH_take (i := 15) (v := undef) (by simp only [List.getElem?_toArray, List.getElem?_cons_zero, List.getElem?_cons_succ]; rfl) (by kernel_rfl) (by kernel_rfl) (by kernel_rfl) (by exact fun _ _ _ h => h) (Or.inr ⟨by rfl, rfl⟩) (by assumption) ?_; simp only [Act.put, List.setIfInBounds_toArray, List.set_cons_zero, List.set_cons_succ, Bool.not_true, Bool.not_false, Bool.or_true, Bool.or_false, Bool.true_or, Bool.false_or, BEq.rfl]) | fail
  refine wpAnyH_done (by kernel_rfl) ?_ _
  go_wp2_with fail
  go_ret
  exact ⟨rfl, hS2.bl⟩
end Go.Proofs.Ytecleampjeebaaa
