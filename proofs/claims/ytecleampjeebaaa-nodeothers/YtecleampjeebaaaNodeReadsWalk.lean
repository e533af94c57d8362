/-
  THE WALK OF NodeReads. Written by mk_nreads.py.
-/
import Derived.Test.YtecleampjeebaaaNodeLaw
import Derived.Test.YtecleampjeebaaaHeld
namespace Go.Proofs.Ytecleampjeebaaa
open Go.RowKit
set_option linter.unusedSimpArgs false
set_option linter.unusedVariables false

/-- A message's eleven cells, an entry's nine. -/
def ml (m : Msg) : List Value := [.string m.from_, .int .i64 m.label.s, .int .i64 m.label.c, .int .i64 m.label.i, .int .i64 m.label.k, .string m.to_, .int .i64 m.box.s, .int .i64 m.box.c, .int .i64 m.box.i, .int .i64 m.box.k, .string m.text]
def el (e : Ent) : List Value := [.int .i64 e.seq, .int .i64 e.label.s, .int .i64 e.label.c, .int .i64 e.label.i, .int .i64 e.label.k, .string e.user, .int .i64 e.verb, .string e.object, .int .i64 e.verdict]
theorem ml_sz (m : Msg) : (Try.prog.info? 42).map (·.size) = some (ml m).length := by
  rw [show (ml m).length = 11 from rfl]
  kernel_rfl
theorem el_sz (e : Ent) : (Try.prog.info? 48).map (·.size) = some (el e).length := by
  rw [show (el e).length = 9 from rfl]
  kernel_rfl
theorem ml_one (m : Msg) : ∀ v ∈ ml m, v.oneCell' = true := by simp [ml, Value.oneCell']
theorem el_one (e : Ent) : ∀ v ∈ el e, v.oneCell' = true := by simp [el, Value.oneCell']
theorem und_msg : Try.prog.underlying 42 = some (.struct (Try.prog.fieldsOf 42)) := by kernel_rfl
theorem und_ent : Try.prog.underlying 48 = some (.struct (Try.prog.fieldsOf 48)) := by kernel_rfl
theorem run_neq_msg (m : Msg) (w : World) : (binOp .neq 42 (.agg (ml m).toArray) (.agg (ml m).toArray)).run Try.prog w = .ok (.bool false) w := by
  unfold ml
  go_simp
theorem run_neq_ent (m : Ent) (w : World) : (binOp .neq 48 (.agg (el m).toArray) (.agg (el m).toArray)).run Try.prog w = .ok (.bool false) w := by
  unfold el
  go_simp
theorem run_eql_msg (m : Msg) (w : World) : (binOp .eql 42 (.agg (ml m).toArray) (.agg (ml m).toArray)).run Try.prog w = .ok (.bool true) w := by
  unfold ml
  go_simp
theorem run_eql_ent (m : Ent) (w : World) : (binOp .eql 48 (.agg (el m).toArray) (.agg (el m).toArray)).run Try.prog w = .ok (.bool true) w := by
  unfold el
  go_simp
theorem encM_nl (m : Msg) (hm : m.Plain) (w : World) :
    Calls Try.prog 21 #[.agg (ml m).toArray] w fun r w' => ∃ a cap, r = .returned (.slice a (encM m).length cap) ∧ (a = none → cap = 0) ∧ (encM m).length ≤ cap ∧ BytesAt w' a (encM m).length (encM m) ∧ Below w.heap.size w w' := by
  refine (nencM_any m hm w).mono ?_
  rintro e w' ⟨v, rfl, hO, hB⟩
  obtain ⟨a, cap, rfl, h1, h2, h3⟩ := hO.long
  exact ⟨a, cap, rfl, h2, h1, h3, hB⟩
theorem encE_nl (m : Ent) (hm : m.Plain) (w : World) :
    Calls Try.prog 22 #[.agg (el m).toArray] w fun r w' => ∃ a cap, r = .returned (.slice a (encE m).length cap) ∧ (a = none → cap = 0) ∧ (encE m).length ≤ cap ∧ BytesAt w' a (encE m).length (encE m) ∧ Below w.heap.size w w' := by
  refine (nencE_any m hm w).mono ?_
  rintro e w' ⟨v, rfl, hO, hB⟩
  obtain ⟨a, cap, rfl, h1, h2, h3⟩ := hO.long
  exact ⟨a, cap, rfl, h2, h1, h3, hB⟩
theorem stab_grs (a : Option Addr) (l : List Gr) : Stab fun W => GrsAt W a l := fun _ _ h b => h.below b
theorem stab_wrds (a : Option Addr) (l : List Int) : Stab fun W => WrdsAt W a l := fun _ _ h b => h.below b
theorem stab_bytes (a : Option Addr) (n : Nat) (l : List UInt8) : Stab fun W => BytesAt W a n l := fun _ _ h b => h.below b
def mzero : Array Value := #[.string ⟨#[]⟩, .int .i64 0, .int .i64 0, .int .i64 0, .int .i64 0, .string ⟨#[]⟩, .int .i64 0, .int .i64 0, .int .i64 0, .int .i64 0, .string ⟨#[]⟩]
def ezero : Array Value := #[.int .i64 0, .int .i64 0, .int .i64 0, .int .i64 0, .int .i64 0, .string ⟨#[]⟩, .int .i64 0, .string ⟨#[]⟩, .int .i64 0]

set_option maxRecDepth 20000 in
set_option maxHeartbeats 8000000 in
theorem nodeReads_walk (a : Option Addr) (l : List UInt8) (n cap : Nat) (hac : a = none → cap = 0) (hnc : n ≤ cap) (w : World) (hb : BytesAt w a n l) :
    Calls Try.prog 4 #[.slice a n cap] w fun e w' => e = .returned (.bool true) ∧ Below w.heap.size w w' := by
  go_enter Try.func4, Try.ntmps4
  go_wp2_with fail
  refine (nknown_any _).mono ?_
  rintro e W1 ⟨rfl, hB1⟩
  by_cases h3 : 3000 < n
  · have i3 : (3000 : Int) < (n : Int) := by omega
    go_wp2_with fail
    go_ret
    exact ⟨rfl, hB1⟩
  have i3 : ¬ (3000 : Int) < (n : Int) := by omega
  have hb1 := hb.below hB1
  have hBa := alloc_below W1 (.cells #[] 5)
  have hO0 := own_empty W1
  obtain ⟨v1, V1, hap, hO1, hB2⟩ := append_bytes_any (W1.alloc (.cells #[] 5)) W1.heap.size _ [] a n cap l (hb1.below hBa) hac hnc hO0 (by simp) (by simp) (by omega)
  rw [List.nil_append] at hO1
  have hB21 : Below W1.heap.size W1 V1 := hBa.trans hB2
  obtain ⟨a1, cap1, rfl, hl1, hac1, hby1⟩ := hO1.long
  have hln : l.length = n := hb.1
  rw [hln] at hl1 hby1 hap
  have H0 : Held w V1 [] := ⟨fun _ h => by simp at h, Below.then hB1 hB21⟩
  have H1 : Held w V1 [fun W => BytesAt W a1 n l, fun W => BytesAt W a n l] := (H0.add (hb1.below hB21) (stab_bytes a n l)).add hby1 (stab_bytes a1 n l)
  have hln : Aside (l.length = n) := hln
  clear hO0 hO1 hB2 hB21 hB1 hb1 hb hBa hby1 H0
  have hund := und_node
  have hundm := und_msg
  have hunde := und_ent
  go_upto_region 6 with (first | (refine wpList_append_u8 rfl _ _ rfl rfl rfl rfl hap ?_) | fail)
  clear hap
  obtain ⟨N, hN⟩ : ∃ N, nodP l = N := ⟨_, rfl⟩
  obtain ⟨M, hM⟩ : ∃ M, msgP l = M := ⟨_, rfl⟩
  obtain ⟨X, hX⟩ : ∃ X, entP l = X := ⟨_, rfl⟩
  obtain ⟨E1, hE1⟩ : ∃ E, nodE l = E := ⟨_, rfl⟩
  obtain ⟨E2, hE2⟩ : ∃ E, msgE l = E := ⟨_, rfl⟩
  obtain ⟨E3, hE3⟩ : ∃ E, entE l = E := ⟨_, rfl⟩
  have kp1 := fun W h => par_nl a1 n cap1 l (by omega) hl1 W h
  have kp2 := fun W h => rpar_nl a n cap l (by omega) hnc W h
  have km1 := fun W h => nmsg_any a1 n cap1 l (by omega) hl1 W h
  have km2 := fun W h => rmsg_any a n cap l (by omega) hnc W h
  have ke1 := fun W h => nent_any a1 n cap1 l (by omega) hl1 W h
  have ke2 := fun W h => rent_any a n cap l (by omega) hnc W h
  have hmv : (msgP l).v = .agg (ml (msgP l)).toArray := rfl
  have hev : (entP l).v = .agg (el (entP l)).toArray := rfl
  have hwn := fun h => nod_written (l := l) h
  have hz1 : nodE l ≠ 0 → nodP l = nodZ := fun h => if_neg h
  have hwm := fun h => msg_written (l := l) h
  have hwe := fun h => ent_written (l := l) h
  obtain ⟨ms, hms⟩ : ∃ ms, ml (msgP l) = ms := ⟨_, rfl⟩
  obtain ⟨es, hes⟩ : ∃ es, el (entP l) = es := ⟨_, rfl⟩
  have hszm := ml_sz (msgP l)
  have hsze := el_sz (entP l)
  have honem := ml_one (msgP l)
  have honee := el_one (entP l)
  have qm := run_neq_msg (msgP l)
  have qe := run_neq_ent (entP l)
  have hlm : ms.length = 11 := by rw [← hms]; rfl
  have hle : es.length = 9 := by rw [← hes]; rfl
  have kem := fun h => encM_nl (msgP l) (hwm h).2
  have kee := fun h => encE_nl (entP l) (hwe h).2
  simp only [hms] at hmv hszm honem qm kem
  simp only [hes] at hev hsze honee qe kee
  simp only [hmv] at km1 km2
  simp only [hev] at ke1 ke2
  simp only [hN, hE1] at kp1 kp2 hwn hz1
  simp only [hM, hE2] at km1 km2 hwm kem
  simp only [hX, hE3] at ke1 ke2 hwe kee
  clear hN hM hX hE1 hE2 hE3 hms hes hmv hev
  go_wp2_with fail
  refine (kp1 _ (H1.get (i := 0) rfl)).mono ?_
  rintro e Z2 ⟨xa, xc, xb, xd, rfl, hg, hv, hB⟩
  have H1' := H1.then hB
  obtain ⟨cs, hcs⟩ : ∃ cs, nl N (.slice xa N.acl.length xc) (.slice xb N.words.length xd) = cs := ⟨_, rfl⟩
  have honecs := nl_one N xa xb N.acl.length xc N.words.length xd
  have hszcs := nl_sz N (.slice xa N.acl.length xc) (.slice xb N.words.length xd)
  have hlcs : cs.length = 16 := by rw [← hcs]; rfl
  simp only [hcs] at honecs hszcs ⊢
  obtain ⟨Y2, hY, hth, hbk, hB2⟩ := put_new Z2 nzero.toArray 29 cs (by rw [hlcs]; rfl) (by omega)
  have H2 := (((H1'.then hB2).add (hg.below hB2) (stab_grs xa N.acl)).add (hv.below hB2) (stab_wrds xb N.words)).add hbk (stab_blk Z2.heap.size cs)
  clear H1 H1' hB hB2 hg hv hbk
  go_upto_region 7 with (first | (refine wpList_store_row rfl _ _ rfl _ rfl cs rfl hth hszcs honecs hY ?_) | fail)
  clear hth hY
  generalize Z2.heap.size = g4 at *
  go_wp2_with fail
  refine (kp2 _ (H2.get (i := 4) rfl)).mono ?_
  rintro e Z3 ⟨ya, yc, yb, yd, rfl, hg, hv, hB⟩
  have H2' := H2.then hB
  obtain ⟨ds, hds⟩ : ∃ cs, nl N (.slice ya N.acl.length yc) (.slice yb N.words.length yd) = cs := ⟨_, rfl⟩
  have honeds := nl_one N ya yb N.acl.length yc N.words.length yd
  have hszds := nl_sz N (.slice ya N.acl.length yc) (.slice yb N.words.length yd)
  have hlds : ds.length = 16 := by rw [← hds]; rfl
  simp only [hds] at honeds hszds ⊢
  obtain ⟨Y3, hY, hth, hbk, hB2⟩ := put_new Z3 nzero.toArray 29 ds (by rw [hlds]; rfl) (by omega)
  have H3 := (((H2'.then hB2).add (hg.below hB2) (stab_grs ya N.acl)).add (hv.below hB2) (stab_wrds yb N.words)).add hbk (stab_blk Z3.heap.size ds)
  clear H2 H2' hB hB2 hg hv hbk
  go_upto_region 8 with (first | (refine wpList_store_row rfl _ _ rfl _ rfl ds rfl hth hszds honeds hY ?_) | fail)
  clear hth hY
  generalize Z3.heap.size = g6 at *
  go_wp2_with fail
  refine (km1 _ (H3.get (i := 6) rfl)).mono ?_
  rintro e Z4 ⟨rfl, hB⟩
  have H3' := H3.then hB
  obtain ⟨Y4, hY, hth, hbk, hB2⟩ := put_new Z4 mzero 42 ms (by rw [hlm]; rfl) (by omega)
  unfold mzero at hY hth
  have H4 := (H3'.then hB2).add hbk (stab_blk Z4.heap.size ms)
  clear H3 H3' hB hB2 hbk
  go_upto_region 9 with (first | (refine wpList_store_row rfl _ _ rfl _ rfl ms rfl hth hszm honem hY ?_) | fail)
  clear hth hY
  generalize Z4.heap.size = g8 at *
  go_wp2_with fail
  refine (km2 _ (H4.get (i := 8) rfl)).mono ?_
  rintro e Z5 ⟨rfl, hB⟩
  have H4' := H4.then hB
  obtain ⟨Y5, hY, hth, hbk, hB2⟩ := put_new Z5 mzero 42 ms (by rw [hlm]; rfl) (by omega)
  unfold mzero at hY hth
  have H5 := (H4'.then hB2).add hbk (stab_blk Z5.heap.size ms)
  clear H4 H4' hB hB2 hbk
  go_upto_region 10 with (first | (refine wpList_store_row rfl _ _ rfl _ rfl ms rfl hth hszm honem hY ?_) | fail)
  clear hth hY
  generalize Z5.heap.size = g10 at *
  go_wp2_with fail
  refine (ke1 _ (H5.get (i := 8) rfl)).mono ?_
  rintro e Z6 ⟨rfl, hB⟩
  have H5' := H5.then hB
  obtain ⟨Y6, hY, hth, hbk, hB2⟩ := put_new Z6 ezero 48 es (by rw [hle]; rfl) (by omega)
  unfold ezero at hY hth
  have H6 := (H5'.then hB2).add hbk (stab_blk Z6.heap.size es)
  clear H5 H5' hB hB2 hbk
  go_upto_region 11 with (first | (refine wpList_store_row rfl _ _ rfl _ rfl es rfl hth hsze honee hY ?_) | fail)
  clear hth hY
  generalize Z6.heap.size = g12 at *
  go_wp2_with fail
  refine (ke2 _ (H6.get (i := 10) rfl)).mono ?_
  rintro e Z7 ⟨rfl, hB⟩
  have H6' := H6.then hB
  obtain ⟨Y7, hY, hth, hbk, hB2⟩ := put_new Z7 ezero 48 es (by rw [hle]; rfl) (by omega)
  unfold ezero at hY hth
  have H7 := (H6'.then hB2).add hbk (stab_blk Z7.heap.size es)
  clear H6 H6' hB hB2 hbk
  go_upto_region 12 with (first | (refine wpList_store_row rfl _ _ rfl _ rfl es rfl hth hsze honee hY ?_) | fail)
  clear hth hY
  generalize Z7.heap.size = g14 at *
  clear kp1 kp2 km1 km2 ke1 ke2
  obtain ⟨ks, hks⟩ : ∃ ks : List (World → Prop), ks = [BlkL g14 es, BlkL g12 es, BlkL g10 ms, BlkL g8 ms, BlkL g6 ds, fun W => WrdsAt W yb N.words, fun W => GrsAt W ya N.acl, BlkL g4 cs, fun W => WrdsAt W xb N.words, fun W => GrsAt W xa N.acl, fun W => BytesAt W a1 n l, fun W => BytesAt W a n l] := ⟨_, rfl⟩
  rw [← hks] at H7
  have Ar4 : ∀ W, Held w W ks → W.rangeAt g4 0 cs := fun W h => by rw [hks] at h; exact (h.get (i := 7) rfl).range
  have Ar6 : ∀ W, Held w W ks → W.rangeAt g6 0 ds := fun W h => by rw [hks] at h; exact (h.get (i := 4) rfl).range
  have Ar8 : ∀ W, Held w W ks → W.rangeAt g8 0 ms := fun W h => by rw [hks] at h; exact (h.get (i := 3) rfl).range
  have Ar10 : ∀ W, Held w W ks → W.rangeAt g10 0 ms := fun W h => by rw [hks] at h; exact (h.get (i := 2) rfl).range
  have Ar12 : ∀ W, Held w W ks → W.rangeAt g12 0 es := fun W h => by rw [hks] at h; exact (h.get (i := 1) rfl).range
  have Ar14 : ∀ W, Held w W ks → W.rangeAt g14 0 es := fun W h => by rw [hks] at h; exact (h.get (i := 0) rfl).range
  have Agx : ∀ W, Held w W ks → GrsAt W xa N.acl := fun W h => by rw [hks] at h; exact (h.get (i := 9) rfl)
  have Agy : ∀ W, Held w W ks → GrsAt W ya N.acl := fun W h => by rw [hks] at h; exact (h.get (i := 6) rfl)
  have Avx : ∀ W, Held w W ks → WrdsAt W xb N.words := fun W h => by rw [hks] at h; exact (h.get (i := 8) rfl)
  have Avy : ∀ W, Held w W ks → WrdsAt W yb N.words := fun W h => by rw [hks] at h; exact (h.get (i := 5) rfl)
  have Ayb : ∀ W, Held w W ks → BytesAt W a n l := fun W h => by rw [hks] at h; exact (h.get (i := 11) rfl)
  clear hks
  have hNl : N.acl.length ≤ 1000000 ∧ N.words.length ≤ 1000000 := by
    by_cases h : E1 = 0
    · have := (hwn h).2
      have h1 := this.a
      have h2 := this.w
      omega
    · have := hz1 h
      subst this
      decide
  have kSm := fun W (h : Held w W ks) => rsame_nl N N xa xc xb xd ya yc yb yd hNl.1 hNl.2 W (Agx W h) (Agy W h) (Avx W h) (Avy W h)
  have kEn := fun (h : E1 = 0) W (hh : Held w W ks) => enc_nl N xa xc xb xd (hwn h).2 W (Agx W hh) (Avx W hh)
  have hnn : nodEq N N = true := nodEq_iff.2 rfl
  have hw1 : E1 = 0 → encN N = l := fun h => (hwn h).1
  have hw2 : E2 = 0 → encM M = l := fun h => (hwm h).1
  have hw3 : E3 = 0 → encE X = l := fun h => (hwe h).1
  simp only [hcs, hds, hnn] at kSm kEn
  have R4 := Ar4 _ H7
  have R6 := Ar6 _ H7
  clear hnn hwn hwm hwe hNl hcs hds
  go_wp2_with (first | (refine wpList_load_rowg (by first | rfl | simp [Region.wanted, yielded]) _ rfl _ rfl cs R4 hund rfl hszcs ?_) | (refine wpList_load_rowg (by first | rfl | simp [Region.wanted, yielded]) _ rfl _ rfl ds R6 hund rfl hszds ?_) | fail)
  refine (kSm _ H7).mono ?_
  rintro e U ⟨rfl, hB⟩
  have H8 := H7.then hB
  have R8 := Ar8 _ H8
  have R10 := Ar10 _ H8
  have R12 := Ar12 _ H8
  have R14 := Ar14 _ H8
  clear H7 hB R4 R6 kSm
  go_wp2_with (first | (refine wpList_load_rowg (by first | rfl | simp [Region.wanted, yielded]) _ rfl _ rfl ms R8 hundm rfl hszm ?_) | (refine wpList_load_rowg (by first | rfl | simp [Region.wanted, yielded]) _ rfl _ rfl ms R10 hundm rfl hszm ?_) | (refine wpList_load_rowg (by first | rfl | simp [Region.wanted, yielded]) _ rfl _ rfl es R12 hunde rfl hsze ?_) | (refine wpList_load_rowg (by first | rfl | simp [Region.wanted, yielded]) _ rfl _ rfl es R14 hunde rfl hsze ?_) | fail)
  clear R8 R10 R12 R14 qm qe Ar6 Ar10 Ar14 Agx Agy Avx Avy
  obtain ⟨b1, hb1⟩ : ∃ b, (E1 != 0) = b := ⟨_, rfl⟩
  obtain ⟨b2, hb2⟩ : ∃ b, (E2 != 0) = b := ⟨_, rfl⟩
  obtain ⟨b3, hb3⟩ : ∃ b, (E3 != 0) = b := ⟨_, rfl⟩
  have k1 : b1 = false → ∀ W, Held w W ks → Calls Try.prog 13 #[.agg cs.toArray] W fun r w' => ∃ a cap, r = .returned (.slice a n cap) ∧ (a = none → cap = 0) ∧ BytesAt w' a n l ∧ Below W.heap.size W w' := fun hq W hh => by
    have h0 : E1 = 0 := by rw [hq] at hb1; simpa using hb1
    refine (kEn h0 W hh).mono ?_
    rw [hw1 h0, hln.out]
    rintro e w' ⟨a, cap, rfl, _, _, h1, h2, h3⟩
    exact ⟨a, cap, rfl, h1, h2, h3⟩
  have k2 : b2 = false → ∀ W, Calls Try.prog 21 #[.agg ms.toArray] W fun r w' => ∃ a cap, r = .returned (.slice a n cap) ∧ (a = none → cap = 0) ∧ BytesAt w' a n l ∧ Below W.heap.size W w' := fun hq W => by
    have h0 : E2 = 0 := by rw [hq] at hb2; simpa using hb2
    refine (kem h0 W).mono ?_
    rw [hw2 h0, hln.out]
    rintro e w' ⟨a, cap, rfl, h1, _, h2, h3⟩
    exact ⟨a, cap, rfl, h1, h2, h3⟩
  have k3 : b3 = false → ∀ W, Calls Try.prog 22 #[.agg es.toArray] W fun r w' => ∃ a cap, r = .returned (.slice a n cap) ∧ (a = none → cap = 0) ∧ BytesAt w' a n l ∧ Below W.heap.size W w' := fun hq W => by
    have h0 : E3 = 0 := by rw [hq] at hb3; simpa using hb3
    refine (kee h0 W).mono ?_
    rw [hw3 h0, hln.out]
    rintro e w' ⟨a, cap, rfl, h1, _, h2, h3⟩
    exact ⟨a, cap, rfl, h1, h2, h3⟩
  have hct : ∀ W, Held w W ks → (convert 34 9 (.slice a n cap)).run Try.prog W = .ok (.string ⟨l.toArray⟩) W := fun W h => bytes_text (Ayb W h) hac
  have hS0 := H8.drew
  clear kEn kem kee hw1 hw2 hw3 H8 Ayb
  cases b1 <;> cases b2 <;> cases b3
  all_goals (
    refine wp_region_held_drew (S := (fun W => Held w W ks)) (by kernel_rfl) (by exact hS0) ?_
    intro hHeld
    first | (refine wpAnyH_take (i := 0) (v := ?_) (by simp only [List.getElem?_toArray, List.getElem?_cons_zero, List.getElem?_cons_succ]; rfl) (by kernel_rfl) (by kernel_rfl) (by kernel_rfl) (by exact fun _ _ _ h => h) (Or.inl ⟨by rfl, ?_⟩) (by assumption) ?_; rotate_left; (focus (intro w hSw; (try dsimp only at hSw); go_simp; try with_reducible rfl)); simp only [Act.put, List.setIfInBounds_toArray, List.set_cons_zero, List.set_cons_succ, hb1, hb2, hb3, Bool.not_true, Bool.not_false, Bool.or_true, Bool.or_false, Bool.true_or, Bool.false_or, BEq.rfl]) | (refine wpAnyH_take (i := 0) (v := undef) (by simp only [List.getElem?_toArray, List.getElem?_cons_zero, List.getElem?_cons_succ]; rfl) (by kernel_rfl) (by kernel_rfl) (by kernel_rfl) (by exact fun _ _ _ h => h) (Or.inr ⟨by rfl, rfl⟩) (by assumption) ?_; simp only [Act.put, List.setIfInBounds_toArray, List.set_cons_zero, List.set_cons_succ, hb1, hb2, hb3, Bool.not_true, Bool.not_false, Bool.or_true, Bool.or_false, Bool.true_or, Bool.false_or, BEq.rfl]) | fail
    first | (refine wpAnyH_take (i := 1) (v := ?_) (by simp only [List.getElem?_toArray, List.getElem?_cons_zero, List.getElem?_cons_succ]; rfl) (by kernel_rfl) (by kernel_rfl) (by kernel_rfl) (by exact fun _ _ _ h => h) (Or.inl ⟨by rfl, ?_⟩) (by assumption) ?_; rotate_left; (focus (intro w hSw; (try dsimp only at hSw); go_simp; try with_reducible rfl)); simp only [Act.put, List.setIfInBounds_toArray, List.set_cons_zero, List.set_cons_succ, hb1, hb2, hb3, Bool.not_true, Bool.not_false, Bool.or_true, Bool.or_false, Bool.true_or, Bool.false_or, BEq.rfl]) | (refine wpAnyH_take (i := 1) (v := undef) (by simp only [List.getElem?_toArray, List.getElem?_cons_zero, List.getElem?_cons_succ]; rfl) (by kernel_rfl) (by kernel_rfl) (by kernel_rfl) (by exact fun _ _ _ h => h) (Or.inr ⟨by rfl, rfl⟩) (by assumption) ?_; simp only [Act.put, List.setIfInBounds_toArray, List.set_cons_zero, List.set_cons_succ, hb1, hb2, hb3, Bool.not_true, Bool.not_false, Bool.or_true, Bool.or_false, Bool.true_or, Bool.false_or, BEq.rfl]) | fail
    first | (refine wpAnyH_take (i := 2) (v := ?_) (by simp only [List.getElem?_toArray, List.getElem?_cons_zero, List.getElem?_cons_succ]; rfl) (by kernel_rfl) (by kernel_rfl) (by kernel_rfl) (by exact fun _ _ _ h => h) (Or.inl ⟨by rfl, ?_⟩) (by assumption) ?_; rotate_left; (focus (intro w hSw; (try dsimp only at hSw); go_simp; try with_reducible rfl)); simp only [Act.put, List.setIfInBounds_toArray, List.set_cons_zero, List.set_cons_succ, hb1, hb2, hb3, Bool.not_true, Bool.not_false, Bool.or_true, Bool.or_false, Bool.true_or, Bool.false_or, BEq.rfl]) | (refine wpAnyH_take (i := 2) (v := undef) (by simp only [List.getElem?_toArray, List.getElem?_cons_zero, List.getElem?_cons_succ]; rfl) (by kernel_rfl) (by kernel_rfl) (by kernel_rfl) (by exact fun _ _ _ h => h) (Or.inr ⟨by rfl, rfl⟩) (by assumption) ?_; simp only [Act.put, List.setIfInBounds_toArray, List.set_cons_zero, List.set_cons_succ, hb1, hb2, hb3, Bool.not_true, Bool.not_false, Bool.or_true, Bool.or_false, Bool.true_or, Bool.false_or, BEq.rfl]) | fail
    first | (refine wpAnyH_take (i := 3) (v := _) (by simp only [List.getElem?_toArray, List.getElem?_cons_zero, List.getElem?_cons_succ]; rfl) (by kernel_rfl) (by kernel_rfl) (by kernel_rfl) (by exact fun _ _ _ h => h) (yields_row (by rfl) _ rfl _ rfl cs Ar4 hund rfl hszcs) (by assumption) ?_; simp only [Act.put, List.setIfInBounds_toArray, List.set_cons_zero, List.set_cons_succ, hb1, hb2, hb3, Bool.not_true, Bool.not_false, Bool.or_true, Bool.or_false, Bool.true_or, Bool.false_or, BEq.rfl]) | (refine wpAnyH_take (i := 3) (v := undef) (by simp only [List.getElem?_toArray, List.getElem?_cons_zero, List.getElem?_cons_succ]; rfl) (by kernel_rfl) (by kernel_rfl) (by kernel_rfl) (by exact fun _ _ _ h => h) (Or.inr ⟨by rfl, rfl⟩) (by assumption) ?_; simp only [Act.put, List.setIfInBounds_toArray, List.set_cons_zero, List.set_cons_succ, hb1, hb2, hb3, Bool.not_true, Bool.not_false, Bool.or_true, Bool.or_false, Bool.true_or, Bool.false_or, BEq.rfl]) | fail
    first | (refine wpAnyH_take (i := 6) (v := ?_) (by simp only [List.getElem?_toArray, List.getElem?_cons_zero, List.getElem?_cons_succ]; rfl) (by kernel_rfl) (by kernel_rfl) (by kernel_rfl) (by exact fun _ _ _ h => h) (Or.inl ⟨by rfl, ?_⟩) (by assumption) ?_; rotate_left; (focus (intro w hSw; (try dsimp only at hSw); go_simp; try with_reducible rfl)); simp only [Act.put, List.setIfInBounds_toArray, List.set_cons_zero, List.set_cons_succ, hb1, hb2, hb3, Bool.not_true, Bool.not_false, Bool.or_true, Bool.or_false, Bool.true_or, Bool.false_or, BEq.rfl]) | (refine wpAnyH_take (i := 6) (v := undef) (by simp only [List.getElem?_toArray, List.getElem?_cons_zero, List.getElem?_cons_succ]; rfl) (by kernel_rfl) (by kernel_rfl) (by kernel_rfl) (by exact fun _ _ _ h => h) (Or.inr ⟨by rfl, rfl⟩) (by assumption) ?_; simp only [Act.put, List.setIfInBounds_toArray, List.set_cons_zero, List.set_cons_succ, hb1, hb2, hb3, Bool.not_true, Bool.not_false, Bool.or_true, Bool.or_false, Bool.true_or, Bool.false_or, BEq.rfl]) | fail
    first | (refine wpAnyH_take (i := 7) (v := _) (by simp only [List.getElem?_toArray, List.getElem?_cons_zero, List.getElem?_cons_succ]; rfl) (by kernel_rfl) (by kernel_rfl) (by kernel_rfl) (by exact fun _ _ _ h => h) (yields_conv (by rfl) _ rfl rfl hct) (by assumption) ?_; simp only [Act.put, List.setIfInBounds_toArray, List.set_cons_zero, List.set_cons_succ, hb1, hb2, hb3, Bool.not_true, Bool.not_false, Bool.or_true, Bool.or_false, Bool.true_or, Bool.false_or, BEq.rfl]) | (refine wpAnyH_take (i := 7) (v := undef) (by simp only [List.getElem?_toArray, List.getElem?_cons_zero, List.getElem?_cons_succ]; rfl) (by kernel_rfl) (by kernel_rfl) (by kernel_rfl) (by exact fun _ _ _ h => h) (Or.inr ⟨by rfl, rfl⟩) (by assumption) ?_; simp only [Act.put, List.setIfInBounds_toArray, List.set_cons_zero, List.set_cons_succ, hb1, hb2, hb3, Bool.not_true, Bool.not_false, Bool.or_true, Bool.or_false, Bool.true_or, Bool.false_or, BEq.rfl]) | fail
    first | (refine wpAnyH_take (i := 4) (v := undef) (by simp only [List.getElem?_toArray, List.getElem?_cons_zero, List.getElem?_cons_succ]; rfl) (by kernel_rfl) (by kernel_rfl) (by kernel_rfl) (by exact fun _ _ _ h => h) (Or.inr ⟨by rfl, rfl⟩) (by assumption) ?_; simp only [Act.put, List.setIfInBounds_toArray, List.set_cons_zero, List.set_cons_succ, hb1, hb2, hb3, Bool.not_true, Bool.not_false, Bool.or_true, Bool.or_false, Bool.true_or, Bool.false_or, BEq.rfl]) | (refine wpAnyH_ready (rs := [4]) (by kernel_rfl) (by simp) ?_; refine AllReadyH.cons (by simp only [List.getElem?_toArray, List.getElem?_cons_zero, List.getElem?_cons_succ]; rfl) (fun K hK => ?_) AllReadyH.nil; go_simp; (first | (go_at_call 13; refine (k1 rfl _ hS0).mono ?_; rintro e w5 ⟨a2, cap2, rfl, hac2, hby2, hB5⟩; have hS0 := hS0.then hB5; have hct2 := bytes_text hby2 hac2) | (go_at_call 21; refine (k2 rfl _).mono ?_; rintro e w5 ⟨a2, cap2, rfl, hac2, hby2, hB5⟩; have hS0 := hS0.then hB5; have hct2 := bytes_text hby2 hac2) | (go_at_call 22; refine (k3 rfl _).mono ?_; rintro e w5 ⟨a2, cap2, rfl, hac2, hby2, hB5⟩; have hS0 := hS0.then hB5; have hct2 := bytes_text hby2 hac2)); refine hK.out _ _ (by exact hS0) ?_; clear hHeld hK; intro hHeld; (try simp only [Act.put, List.setIfInBounds_toArray, List.set_cons_zero, List.set_cons_succ, hb1, hb2, hb3, Bool.not_true, Bool.not_false, Bool.or_true, Bool.or_false, Bool.true_or, Bool.false_or, BEq.rfl])) | fail
    first | (refine wpAnyH_take (i := 5) (v := undef) (by simp only [List.getElem?_toArray, List.getElem?_cons_zero, List.getElem?_cons_succ]; rfl) (by kernel_rfl) (by kernel_rfl) (by kernel_rfl) (by exact fun _ _ _ h => h) (Or.inr ⟨by rfl, rfl⟩) (by assumption) ?_; simp only [Act.put, List.setIfInBounds_toArray, List.set_cons_zero, List.set_cons_succ, hb1, hb2, hb3, Bool.not_true, Bool.not_false, Bool.or_true, Bool.or_false, Bool.true_or, Bool.false_or, BEq.rfl]) | (refine wpAnyH_ready (rs := [5]) (by kernel_rfl) (by simp) ?_; refine AllReadyH.cons (by simp only [List.getElem?_toArray, List.getElem?_cons_zero, List.getElem?_cons_succ]; rfl) (fun K hK => ?_) AllReadyH.nil; go_simp; refine hK.out _ _ (by exact hS0) ?_; clear hHeld hK; intro hHeld; (try simp only [Act.put, List.setIfInBounds_toArray, List.set_cons_zero, List.set_cons_succ, hb1, hb2, hb3, Bool.not_true, Bool.not_false, Bool.or_true, Bool.or_false, Bool.true_or, Bool.false_or, BEq.rfl])) | fail
    first | (refine wpAnyH_take (i := 8) (v := ?_) (by simp only [List.getElem?_toArray, List.getElem?_cons_zero, List.getElem?_cons_succ]; rfl) (by kernel_rfl) (by kernel_rfl) (by kernel_rfl) (by exact fun _ _ _ h => h) (Or.inl ⟨by rfl, ?_⟩) (by assumption) ?_; rotate_left; (focus (intro w hSw; (try dsimp only at hSw); go_simp; try with_reducible rfl)); simp only [Act.put, List.setIfInBounds_toArray, List.set_cons_zero, List.set_cons_succ, hb1, hb2, hb3, Bool.not_true, Bool.not_false, Bool.or_true, Bool.or_false, Bool.true_or, Bool.false_or, BEq.rfl]) | (refine wpAnyH_take (i := 8) (v := undef) (by simp only [List.getElem?_toArray, List.getElem?_cons_zero, List.getElem?_cons_succ]; rfl) (by kernel_rfl) (by kernel_rfl) (by kernel_rfl) (by exact fun _ _ _ h => h) (Or.inr ⟨by rfl, rfl⟩) (by assumption) ?_; simp only [Act.put, List.setIfInBounds_toArray, List.set_cons_zero, List.set_cons_succ, hb1, hb2, hb3, Bool.not_true, Bool.not_false, Bool.or_true, Bool.or_false, Bool.true_or, Bool.false_or, BEq.rfl]) | fail
    first | (refine wpAnyH_take (i := 9) (v := ?_) (by simp only [List.getElem?_toArray, List.getElem?_cons_zero, List.getElem?_cons_succ]; rfl) (by kernel_rfl) (by kernel_rfl) (by kernel_rfl) (by exact fun _ _ _ h => h) (Or.inl ⟨by rfl, ?_⟩) (by assumption) ?_; rotate_left; (focus (intro w hSw; (try dsimp only at hSw); go_simp; try with_reducible rfl)); simp only [Act.put, List.setIfInBounds_toArray, List.set_cons_zero, List.set_cons_succ, hb1, hb2, hb3, Bool.not_true, Bool.not_false, Bool.or_true, Bool.or_false, Bool.true_or, Bool.false_or, BEq.rfl]) | (refine wpAnyH_take (i := 9) (v := undef) (by simp only [List.getElem?_toArray, List.getElem?_cons_zero, List.getElem?_cons_succ]; rfl) (by kernel_rfl) (by kernel_rfl) (by kernel_rfl) (by exact fun _ _ _ h => h) (Or.inr ⟨by rfl, rfl⟩) (by assumption) ?_; simp only [Act.put, List.setIfInBounds_toArray, List.set_cons_zero, List.set_cons_succ, hb1, hb2, hb3, Bool.not_true, Bool.not_false, Bool.or_true, Bool.or_false, Bool.true_or, Bool.false_or, BEq.rfl]) | fail
    first | (refine wpAnyH_take (i := 10) (v := ?_) (by simp only [List.getElem?_toArray, List.getElem?_cons_zero, List.getElem?_cons_succ]; rfl) (by kernel_rfl) (by kernel_rfl) (by kernel_rfl) (by exact fun _ _ _ h => h) (Or.inl ⟨by rfl, ?_⟩) (by assumption) ?_; rotate_left; (focus (intro w hSw; (try dsimp only at hSw); go_simp; try with_reducible rfl)); simp only [Act.put, List.setIfInBounds_toArray, List.set_cons_zero, List.set_cons_succ, hb1, hb2, hb3, Bool.not_true, Bool.not_false, Bool.or_true, Bool.or_false, Bool.true_or, Bool.false_or, BEq.rfl]) | (refine wpAnyH_take (i := 10) (v := undef) (by simp only [List.getElem?_toArray, List.getElem?_cons_zero, List.getElem?_cons_succ]; rfl) (by kernel_rfl) (by kernel_rfl) (by kernel_rfl) (by exact fun _ _ _ h => h) (Or.inr ⟨by rfl, rfl⟩) (by assumption) ?_; simp only [Act.put, List.setIfInBounds_toArray, List.set_cons_zero, List.set_cons_succ, hb1, hb2, hb3, Bool.not_true, Bool.not_false, Bool.or_true, Bool.or_false, Bool.true_or, Bool.false_or, BEq.rfl]) | fail
    first | (refine wpAnyH_take (i := 11) (v := ?_) (by simp only [List.getElem?_toArray, List.getElem?_cons_zero, List.getElem?_cons_succ]; rfl) (by kernel_rfl) (by kernel_rfl) (by kernel_rfl) (by exact fun _ _ _ h => h) (Or.inl ⟨by rfl, ?_⟩) (by assumption) ?_; rotate_left; (focus (intro w hSw; (try dsimp only at hSw); go_simp; try with_reducible rfl)); simp only [Act.put, List.setIfInBounds_toArray, List.set_cons_zero, List.set_cons_succ, hb1, hb2, hb3, Bool.not_true, Bool.not_false, Bool.or_true, Bool.or_false, Bool.true_or, Bool.false_or, BEq.rfl]) | (refine wpAnyH_take (i := 11) (v := undef) (by simp only [List.getElem?_toArray, List.getElem?_cons_zero, List.getElem?_cons_succ]; rfl) (by kernel_rfl) (by kernel_rfl) (by kernel_rfl) (by exact fun _ _ _ h => h) (Or.inr ⟨by rfl, rfl⟩) (by assumption) ?_; simp only [Act.put, List.setIfInBounds_toArray, List.set_cons_zero, List.set_cons_succ, hb1, hb2, hb3, Bool.not_true, Bool.not_false, Bool.or_true, Bool.or_false, Bool.true_or, Bool.false_or, BEq.rfl]) | fail
    first | (refine wpAnyH_take (i := 12) (v := ?_) (by simp only [List.getElem?_toArray, List.getElem?_cons_zero, List.getElem?_cons_succ]; rfl) (by kernel_rfl) (by kernel_rfl) (by kernel_rfl) (by exact fun _ _ _ h => h) (Or.inl ⟨by rfl, ?_⟩) (by assumption) ?_; rotate_left; (focus (intro w hSw; (try dsimp only at hSw); go_simp; try with_reducible rfl)); simp only [Act.put, List.setIfInBounds_toArray, List.set_cons_zero, List.set_cons_succ, hb1, hb2, hb3, Bool.not_true, Bool.not_false, Bool.or_true, Bool.or_false, Bool.true_or, Bool.false_or, BEq.rfl]) | (refine wpAnyH_take (i := 12) (v := undef) (by simp only [List.getElem?_toArray, List.getElem?_cons_zero, List.getElem?_cons_succ]; rfl) (by kernel_rfl) (by kernel_rfl) (by kernel_rfl) (by exact fun _ _ _ h => h) (Or.inr ⟨by rfl, rfl⟩) (by assumption) ?_; simp only [Act.put, List.setIfInBounds_toArray, List.set_cons_zero, List.set_cons_succ, hb1, hb2, hb3, Bool.not_true, Bool.not_false, Bool.or_true, Bool.or_false, Bool.true_or, Bool.false_or, BEq.rfl]) | fail
    first | (refine wpAnyH_take (i := 13) (v := ?_) (by simp only [List.getElem?_toArray, List.getElem?_cons_zero, List.getElem?_cons_succ]; rfl) (by kernel_rfl) (by kernel_rfl) (by kernel_rfl) (by exact fun _ _ _ h => h) (Or.inl ⟨by rfl, ?_⟩) (by assumption) ?_; rotate_left; (focus (intro w hSw; (try dsimp only at hSw); go_simp; try with_reducible rfl)); simp only [Act.put, List.setIfInBounds_toArray, List.set_cons_zero, List.set_cons_succ, hb1, hb2, hb3, Bool.not_true, Bool.not_false, Bool.or_true, Bool.or_false, Bool.true_or, Bool.false_or, BEq.rfl]) | (refine wpAnyH_take (i := 13) (v := undef) (by simp only [List.getElem?_toArray, List.getElem?_cons_zero, List.getElem?_cons_succ]; rfl) (by kernel_rfl) (by kernel_rfl) (by kernel_rfl) (by exact fun _ _ _ h => h) (Or.inr ⟨by rfl, rfl⟩) (by assumption) ?_; simp only [Act.put, List.setIfInBounds_toArray, List.set_cons_zero, List.set_cons_succ, hb1, hb2, hb3, Bool.not_true, Bool.not_false, Bool.or_true, Bool.or_false, Bool.true_or, Bool.false_or, BEq.rfl]) | fail
    first | (refine wpAnyH_take (i := 14) (v := _) (by simp only [List.getElem?_toArray, List.getElem?_cons_zero, List.getElem?_cons_succ]; rfl) (by kernel_rfl) (by kernel_rfl) (by kernel_rfl) (by exact fun _ _ _ h => h) (yields_row (by rfl) _ rfl _ rfl ms Ar8 hundm rfl hszm) (by assumption) ?_; simp only [Act.put, List.setIfInBounds_toArray, List.set_cons_zero, List.set_cons_succ, hb1, hb2, hb3, Bool.not_true, Bool.not_false, Bool.or_true, Bool.or_false, Bool.true_or, Bool.false_or, BEq.rfl]) | (refine wpAnyH_take (i := 14) (v := undef) (by simp only [List.getElem?_toArray, List.getElem?_cons_zero, List.getElem?_cons_succ]; rfl) (by kernel_rfl) (by kernel_rfl) (by kernel_rfl) (by exact fun _ _ _ h => h) (Or.inr ⟨by rfl, rfl⟩) (by assumption) ?_; simp only [Act.put, List.setIfInBounds_toArray, List.set_cons_zero, List.set_cons_succ, hb1, hb2, hb3, Bool.not_true, Bool.not_false, Bool.or_true, Bool.or_false, Bool.true_or, Bool.false_or, BEq.rfl]) | fail
    first | (refine wpAnyH_take (i := 17) (v := ?_) (by simp only [List.getElem?_toArray, List.getElem?_cons_zero, List.getElem?_cons_succ]; rfl) (by kernel_rfl) (by kernel_rfl) (by kernel_rfl) (by exact fun _ _ _ h => h) (Or.inl ⟨by rfl, ?_⟩) (by assumption) ?_; rotate_left; (focus (intro w hSw; (try dsimp only at hSw); go_simp; try with_reducible rfl)); simp only [Act.put, List.setIfInBounds_toArray, List.set_cons_zero, List.set_cons_succ, hb1, hb2, hb3, Bool.not_true, Bool.not_false, Bool.or_true, Bool.or_false, Bool.true_or, Bool.false_or, BEq.rfl]) | (refine wpAnyH_take (i := 17) (v := undef) (by simp only [List.getElem?_toArray, List.getElem?_cons_zero, List.getElem?_cons_succ]; rfl) (by kernel_rfl) (by kernel_rfl) (by kernel_rfl) (by exact fun _ _ _ h => h) (Or.inr ⟨by rfl, rfl⟩) (by assumption) ?_; simp only [Act.put, List.setIfInBounds_toArray, List.set_cons_zero, List.set_cons_succ, hb1, hb2, hb3, Bool.not_true, Bool.not_false, Bool.or_true, Bool.or_false, Bool.true_or, Bool.false_or, BEq.rfl]) | fail
    first | (refine wpAnyH_take (i := 18) (v := _) (by simp only [List.getElem?_toArray, List.getElem?_cons_zero, List.getElem?_cons_succ]; rfl) (by kernel_rfl) (by kernel_rfl) (by kernel_rfl) (by exact fun _ _ _ h => h) (yields_conv (by rfl) _ rfl rfl hct) (by assumption) ?_; simp only [Act.put, List.setIfInBounds_toArray, List.set_cons_zero, List.set_cons_succ, hb1, hb2, hb3, Bool.not_true, Bool.not_false, Bool.or_true, Bool.or_false, Bool.true_or, Bool.false_or, BEq.rfl]) | (refine wpAnyH_take (i := 18) (v := undef) (by simp only [List.getElem?_toArray, List.getElem?_cons_zero, List.getElem?_cons_succ]; rfl) (by kernel_rfl) (by kernel_rfl) (by kernel_rfl) (by exact fun _ _ _ h => h) (Or.inr ⟨by rfl, rfl⟩) (by assumption) ?_; simp only [Act.put, List.setIfInBounds_toArray, List.set_cons_zero, List.set_cons_succ, hb1, hb2, hb3, Bool.not_true, Bool.not_false, Bool.or_true, Bool.or_false, Bool.true_or, Bool.false_or, BEq.rfl]) | fail
    first | (refine wpAnyH_take (i := 15) (v := undef) (by simp only [List.getElem?_toArray, List.getElem?_cons_zero, List.getElem?_cons_succ]; rfl) (by kernel_rfl) (by kernel_rfl) (by kernel_rfl) (by exact fun _ _ _ h => h) (Or.inr ⟨by rfl, rfl⟩) (by assumption) ?_; simp only [Act.put, List.setIfInBounds_toArray, List.set_cons_zero, List.set_cons_succ, hb1, hb2, hb3, Bool.not_true, Bool.not_false, Bool.or_true, Bool.or_false, Bool.true_or, Bool.false_or, BEq.rfl]) | (refine wpAnyH_ready (rs := [15]) (by kernel_rfl) (by simp) ?_; refine AllReadyH.cons (by simp only [List.getElem?_toArray, List.getElem?_cons_zero, List.getElem?_cons_succ]; rfl) (fun K hK => ?_) AllReadyH.nil; go_simp; (first | (go_at_call 13; refine (k1 rfl _ hS0).mono ?_; rintro e w5 ⟨a2, cap2, rfl, hac2, hby2, hB5⟩; have hS0 := hS0.then hB5; have hct2 := bytes_text hby2 hac2) | (go_at_call 21; refine (k2 rfl _).mono ?_; rintro e w5 ⟨a2, cap2, rfl, hac2, hby2, hB5⟩; have hS0 := hS0.then hB5; have hct2 := bytes_text hby2 hac2) | (go_at_call 22; refine (k3 rfl _).mono ?_; rintro e w5 ⟨a2, cap2, rfl, hac2, hby2, hB5⟩; have hS0 := hS0.then hB5; have hct2 := bytes_text hby2 hac2)); refine hK.out _ _ (by exact hS0) ?_; clear hHeld hK; intro hHeld; (try simp only [Act.put, List.setIfInBounds_toArray, List.set_cons_zero, List.set_cons_succ, hb1, hb2, hb3, Bool.not_true, Bool.not_false, Bool.or_true, Bool.or_false, Bool.true_or, Bool.false_or, BEq.rfl])) | fail
    first | (refine wpAnyH_take (i := 16) (v := undef) (by simp only [List.getElem?_toArray, List.getElem?_cons_zero, List.getElem?_cons_succ]; rfl) (by kernel_rfl) (by kernel_rfl) (by kernel_rfl) (by exact fun _ _ _ h => h) (Or.inr ⟨by rfl, rfl⟩) (by assumption) ?_; simp only [Act.put, List.setIfInBounds_toArray, List.set_cons_zero, List.set_cons_succ, hb1, hb2, hb3, Bool.not_true, Bool.not_false, Bool.or_true, Bool.or_false, Bool.true_or, Bool.false_or, BEq.rfl]) | (refine wpAnyH_ready (rs := [16]) (by kernel_rfl) (by simp) ?_; refine AllReadyH.cons (by simp only [List.getElem?_toArray, List.getElem?_cons_zero, List.getElem?_cons_succ]; rfl) (fun K hK => ?_) AllReadyH.nil; go_simp; refine hK.out _ _ (by exact hS0) ?_; clear hHeld hK; intro hHeld; (try simp only [Act.put, List.setIfInBounds_toArray, List.set_cons_zero, List.set_cons_succ, hb1, hb2, hb3, Bool.not_true, Bool.not_false, Bool.or_true, Bool.or_false, Bool.true_or, Bool.false_or, BEq.rfl])) | fail
    first | (refine wpAnyH_take (i := 19) (v := ?_) (by simp only [List.getElem?_toArray, List.getElem?_cons_zero, List.getElem?_cons_succ]; rfl) (by kernel_rfl) (by kernel_rfl) (by kernel_rfl) (by exact fun _ _ _ h => h) (Or.inl ⟨by rfl, ?_⟩) (by assumption) ?_; rotate_left; (focus (intro w hSw; (try dsimp only at hSw); go_simp; try with_reducible rfl)); simp only [Act.put, List.setIfInBounds_toArray, List.set_cons_zero, List.set_cons_succ, hb1, hb2, hb3, Bool.not_true, Bool.not_false, Bool.or_true, Bool.or_false, Bool.true_or, Bool.false_or, BEq.rfl]) | (refine wpAnyH_take (i := 19) (v := undef) (by simp only [List.getElem?_toArray, List.getElem?_cons_zero, List.getElem?_cons_succ]; rfl) (by kernel_rfl) (by kernel_rfl) (by kernel_rfl) (by exact fun _ _ _ h => h) (Or.inr ⟨by rfl, rfl⟩) (by assumption) ?_; simp only [Act.put, List.setIfInBounds_toArray, List.set_cons_zero, List.set_cons_succ, hb1, hb2, hb3, Bool.not_true, Bool.not_false, Bool.or_true, Bool.or_false, Bool.true_or, Bool.false_or, BEq.rfl]) | fail
    first | (refine wpAnyH_take (i := 20) (v := ?_) (by simp only [List.getElem?_toArray, List.getElem?_cons_zero, List.getElem?_cons_succ]; rfl) (by kernel_rfl) (by kernel_rfl) (by kernel_rfl) (by exact fun _ _ _ h => h) (Or.inl ⟨by rfl, ?_⟩) (by assumption) ?_; rotate_left; (focus (intro w hSw; (try dsimp only at hSw); go_simp; try with_reducible rfl)); simp only [Act.put, List.setIfInBounds_toArray, List.set_cons_zero, List.set_cons_succ, hb1, hb2, hb3, Bool.not_true, Bool.not_false, Bool.or_true, Bool.or_false, Bool.true_or, Bool.false_or, BEq.rfl]) | (refine wpAnyH_take (i := 20) (v := undef) (by simp only [List.getElem?_toArray, List.getElem?_cons_zero, List.getElem?_cons_succ]; rfl) (by kernel_rfl) (by kernel_rfl) (by kernel_rfl) (by exact fun _ _ _ h => h) (Or.inr ⟨by rfl, rfl⟩) (by assumption) ?_; simp only [Act.put, List.setIfInBounds_toArray, List.set_cons_zero, List.set_cons_succ, hb1, hb2, hb3, Bool.not_true, Bool.not_false, Bool.or_true, Bool.or_false, Bool.true_or, Bool.false_or, BEq.rfl]) | fail
    first | (refine wpAnyH_take (i := 21) (v := ?_) (by simp only [List.getElem?_toArray, List.getElem?_cons_zero, List.getElem?_cons_succ]; rfl) (by kernel_rfl) (by kernel_rfl) (by kernel_rfl) (by exact fun _ _ _ h => h) (Or.inl ⟨by rfl, ?_⟩) (by assumption) ?_; rotate_left; (focus (intro w hSw; (try dsimp only at hSw); go_simp; try with_reducible rfl)); simp only [Act.put, List.setIfInBounds_toArray, List.set_cons_zero, List.set_cons_succ, hb1, hb2, hb3, Bool.not_true, Bool.not_false, Bool.or_true, Bool.or_false, Bool.true_or, Bool.false_or, BEq.rfl]) | (refine wpAnyH_take (i := 21) (v := undef) (by simp only [List.getElem?_toArray, List.getElem?_cons_zero, List.getElem?_cons_succ]; rfl) (by kernel_rfl) (by kernel_rfl) (by kernel_rfl) (by exact fun _ _ _ h => h) (Or.inr ⟨by rfl, rfl⟩) (by assumption) ?_; simp only [Act.put, List.setIfInBounds_toArray, List.set_cons_zero, List.set_cons_succ, hb1, hb2, hb3, Bool.not_true, Bool.not_false, Bool.or_true, Bool.or_false, Bool.true_or, Bool.false_or, BEq.rfl]) | fail
    first | (refine wpAnyH_take (i := 22) (v := ?_) (by simp only [List.getElem?_toArray, List.getElem?_cons_zero, List.getElem?_cons_succ]; rfl) (by kernel_rfl) (by kernel_rfl) (by kernel_rfl) (by exact fun _ _ _ h => h) (Or.inl ⟨by rfl, ?_⟩) (by assumption) ?_; rotate_left; (focus (intro w hSw; (try dsimp only at hSw); go_simp; try with_reducible rfl)); simp only [Act.put, List.setIfInBounds_toArray, List.set_cons_zero, List.set_cons_succ, hb1, hb2, hb3, Bool.not_true, Bool.not_false, Bool.or_true, Bool.or_false, Bool.true_or, Bool.false_or, BEq.rfl]) | (refine wpAnyH_take (i := 22) (v := undef) (by simp only [List.getElem?_toArray, List.getElem?_cons_zero, List.getElem?_cons_succ]; rfl) (by kernel_rfl) (by kernel_rfl) (by kernel_rfl) (by exact fun _ _ _ h => h) (Or.inr ⟨by rfl, rfl⟩) (by assumption) ?_; simp only [Act.put, List.setIfInBounds_toArray, List.set_cons_zero, List.set_cons_succ, hb1, hb2, hb3, Bool.not_true, Bool.not_false, Bool.or_true, Bool.or_false, Bool.true_or, Bool.false_or, BEq.rfl]) | fail
    first | (refine wpAnyH_take (i := 23) (v := ?_) (by simp only [List.getElem?_toArray, List.getElem?_cons_zero, List.getElem?_cons_succ]; rfl) (by kernel_rfl) (by kernel_rfl) (by kernel_rfl) (by exact fun _ _ _ h => h) (Or.inl ⟨by rfl, ?_⟩) (by assumption) ?_; rotate_left; (focus (intro w hSw; (try dsimp only at hSw); go_simp; try with_reducible rfl)); simp only [Act.put, List.setIfInBounds_toArray, List.set_cons_zero, List.set_cons_succ, hb1, hb2, hb3, Bool.not_true, Bool.not_false, Bool.or_true, Bool.or_false, Bool.true_or, Bool.false_or, BEq.rfl]) | (refine wpAnyH_take (i := 23) (v := undef) (by simp only [List.getElem?_toArray, List.getElem?_cons_zero, List.getElem?_cons_succ]; rfl) (by kernel_rfl) (by kernel_rfl) (by kernel_rfl) (by exact fun _ _ _ h => h) (Or.inr ⟨by rfl, rfl⟩) (by assumption) ?_; simp only [Act.put, List.setIfInBounds_toArray, List.set_cons_zero, List.set_cons_succ, hb1, hb2, hb3, Bool.not_true, Bool.not_false, Bool.or_true, Bool.or_false, Bool.true_or, Bool.false_or, BEq.rfl]) | fail
    first | (refine wpAnyH_take (i := 24) (v := ?_) (by simp only [List.getElem?_toArray, List.getElem?_cons_zero, List.getElem?_cons_succ]; rfl) (by kernel_rfl) (by kernel_rfl) (by kernel_rfl) (by exact fun _ _ _ h => h) (Or.inl ⟨by rfl, ?_⟩) (by assumption) ?_; rotate_left; (focus (intro w hSw; (try dsimp only at hSw); go_simp; try with_reducible rfl)); simp only [Act.put, List.setIfInBounds_toArray, List.set_cons_zero, List.set_cons_succ, hb1, hb2, hb3, Bool.not_true, Bool.not_false, Bool.or_true, Bool.or_false, Bool.true_or, Bool.false_or, BEq.rfl]) | (refine wpAnyH_take (i := 24) (v := undef) (by simp only [List.getElem?_toArray, List.getElem?_cons_zero, List.getElem?_cons_succ]; rfl) (by kernel_rfl) (by kernel_rfl) (by kernel_rfl) (by exact fun _ _ _ h => h) (Or.inr ⟨by rfl, rfl⟩) (by assumption) ?_; simp only [Act.put, List.setIfInBounds_toArray, List.set_cons_zero, List.set_cons_succ, hb1, hb2, hb3, Bool.not_true, Bool.not_false, Bool.or_true, Bool.or_false, Bool.true_or, Bool.false_or, BEq.rfl]) | fail
    first | (refine wpAnyH_take (i := 25) (v := ?_) (by simp only [List.getElem?_toArray, List.getElem?_cons_zero, List.getElem?_cons_succ]; rfl) (by kernel_rfl) (by kernel_rfl) (by kernel_rfl) (by exact fun _ _ _ h => h) (Or.inl ⟨by rfl, ?_⟩) (by assumption) ?_; rotate_left; (focus (intro w hSw; (try dsimp only at hSw); go_simp; try with_reducible rfl)); simp only [Act.put, List.setIfInBounds_toArray, List.set_cons_zero, List.set_cons_succ, hb1, hb2, hb3, Bool.not_true, Bool.not_false, Bool.or_true, Bool.or_false, Bool.true_or, Bool.false_or, BEq.rfl]) | (refine wpAnyH_take (i := 25) (v := undef) (by simp only [List.getElem?_toArray, List.getElem?_cons_zero, List.getElem?_cons_succ]; rfl) (by kernel_rfl) (by kernel_rfl) (by kernel_rfl) (by exact fun _ _ _ h => h) (Or.inr ⟨by rfl, rfl⟩) (by assumption) ?_; simp only [Act.put, List.setIfInBounds_toArray, List.set_cons_zero, List.set_cons_succ, hb1, hb2, hb3, Bool.not_true, Bool.not_false, Bool.or_true, Bool.or_false, Bool.true_or, Bool.false_or, BEq.rfl]) | fail
    first | (refine wpAnyH_take (i := 26) (v := _) (by simp only [List.getElem?_toArray, List.getElem?_cons_zero, List.getElem?_cons_succ]; rfl) (by kernel_rfl) (by kernel_rfl) (by kernel_rfl) (by exact fun _ _ _ h => h) (yields_row (by rfl) _ rfl _ rfl es Ar12 hunde rfl hsze) (by assumption) ?_; simp only [Act.put, List.setIfInBounds_toArray, List.set_cons_zero, List.set_cons_succ, hb1, hb2, hb3, Bool.not_true, Bool.not_false, Bool.or_true, Bool.or_false, Bool.true_or, Bool.false_or, BEq.rfl]) | (refine wpAnyH_take (i := 26) (v := undef) (by simp only [List.getElem?_toArray, List.getElem?_cons_zero, List.getElem?_cons_succ]; rfl) (by kernel_rfl) (by kernel_rfl) (by kernel_rfl) (by exact fun _ _ _ h => h) (Or.inr ⟨by rfl, rfl⟩) (by assumption) ?_; simp only [Act.put, List.setIfInBounds_toArray, List.set_cons_zero, List.set_cons_succ, hb1, hb2, hb3, Bool.not_true, Bool.not_false, Bool.or_true, Bool.or_false, Bool.true_or, Bool.false_or, BEq.rfl]) | fail
    first | (refine wpAnyH_take (i := 29) (v := ?_) (by simp only [List.getElem?_toArray, List.getElem?_cons_zero, List.getElem?_cons_succ]; rfl) (by kernel_rfl) (by kernel_rfl) (by kernel_rfl) (by exact fun _ _ _ h => h) (Or.inl ⟨by rfl, ?_⟩) (by assumption) ?_; rotate_left; (focus (intro w hSw; (try dsimp only at hSw); go_simp; try with_reducible rfl)); simp only [Act.put, List.setIfInBounds_toArray, List.set_cons_zero, List.set_cons_succ, hb1, hb2, hb3, Bool.not_true, Bool.not_false, Bool.or_true, Bool.or_false, Bool.true_or, Bool.false_or, BEq.rfl]) | (refine wpAnyH_take (i := 29) (v := undef) (by simp only [List.getElem?_toArray, List.getElem?_cons_zero, List.getElem?_cons_succ]; rfl) (by kernel_rfl) (by kernel_rfl) (by kernel_rfl) (by exact fun _ _ _ h => h) (Or.inr ⟨by rfl, rfl⟩) (by assumption) ?_; simp only [Act.put, List.setIfInBounds_toArray, List.set_cons_zero, List.set_cons_succ, hb1, hb2, hb3, Bool.not_true, Bool.not_false, Bool.or_true, Bool.or_false, Bool.true_or, Bool.false_or, BEq.rfl]) | fail
    first | (refine wpAnyH_take (i := 30) (v := _) (by simp only [List.getElem?_toArray, List.getElem?_cons_zero, List.getElem?_cons_succ]; rfl) (by kernel_rfl) (by kernel_rfl) (by kernel_rfl) (by exact fun _ _ _ h => h) (yields_conv (by rfl) _ rfl rfl hct) (by assumption) ?_; simp only [Act.put, List.setIfInBounds_toArray, List.set_cons_zero, List.set_cons_succ, hb1, hb2, hb3, Bool.not_true, Bool.not_false, Bool.or_true, Bool.or_false, Bool.true_or, Bool.false_or, BEq.rfl]) | (refine wpAnyH_take (i := 30) (v := undef) (by simp only [List.getElem?_toArray, List.getElem?_cons_zero, List.getElem?_cons_succ]; rfl) (by kernel_rfl) (by kernel_rfl) (by kernel_rfl) (by exact fun _ _ _ h => h) (Or.inr ⟨by rfl, rfl⟩) (by assumption) ?_; simp only [Act.put, List.setIfInBounds_toArray, List.set_cons_zero, List.set_cons_succ, hb1, hb2, hb3, Bool.not_true, Bool.not_false, Bool.or_true, Bool.or_false, Bool.true_or, Bool.false_or, BEq.rfl]) | fail
    first | (refine wpAnyH_take (i := 27) (v := undef) (by simp only [List.getElem?_toArray, List.getElem?_cons_zero, List.getElem?_cons_succ]; rfl) (by kernel_rfl) (by kernel_rfl) (by kernel_rfl) (by exact fun _ _ _ h => h) (Or.inr ⟨by rfl, rfl⟩) (by assumption) ?_; simp only [Act.put, List.setIfInBounds_toArray, List.set_cons_zero, List.set_cons_succ, hb1, hb2, hb3, Bool.not_true, Bool.not_false, Bool.or_true, Bool.or_false, Bool.true_or, Bool.false_or, BEq.rfl]) | (refine wpAnyH_ready (rs := [27]) (by kernel_rfl) (by simp) ?_; refine AllReadyH.cons (by simp only [List.getElem?_toArray, List.getElem?_cons_zero, List.getElem?_cons_succ]; rfl) (fun K hK => ?_) AllReadyH.nil; go_simp; (first | (go_at_call 13; refine (k1 rfl _ hS0).mono ?_; rintro e w5 ⟨a2, cap2, rfl, hac2, hby2, hB5⟩; have hS0 := hS0.then hB5; have hct2 := bytes_text hby2 hac2) | (go_at_call 21; refine (k2 rfl _).mono ?_; rintro e w5 ⟨a2, cap2, rfl, hac2, hby2, hB5⟩; have hS0 := hS0.then hB5; have hct2 := bytes_text hby2 hac2) | (go_at_call 22; refine (k3 rfl _).mono ?_; rintro e w5 ⟨a2, cap2, rfl, hac2, hby2, hB5⟩; have hS0 := hS0.then hB5; have hct2 := bytes_text hby2 hac2)); refine hK.out _ _ (by exact hS0) ?_; clear hHeld hK; intro hHeld; (try simp only [Act.put, List.setIfInBounds_toArray, List.set_cons_zero, List.set_cons_succ, hb1, hb2, hb3, Bool.not_true, Bool.not_false, Bool.or_true, Bool.or_false, Bool.true_or, Bool.false_or, BEq.rfl])) | fail
    first | (refine wpAnyH_take (i := 28) (v := undef) (by simp only [List.getElem?_toArray, List.getElem?_cons_zero, List.getElem?_cons_succ]; rfl) (by kernel_rfl) (by kernel_rfl) (by kernel_rfl) (by exact fun _ _ _ h => h) (Or.inr ⟨by rfl, rfl⟩) (by assumption) ?_; simp only [Act.put, List.setIfInBounds_toArray, List.set_cons_zero, List.set_cons_succ, hb1, hb2, hb3, Bool.not_true, Bool.not_false, Bool.or_true, Bool.or_false, Bool.true_or, Bool.false_or, BEq.rfl]) | (refine wpAnyH_ready (rs := [28]) (by kernel_rfl) (by simp) ?_; refine AllReadyH.cons (by simp only [List.getElem?_toArray, List.getElem?_cons_zero, List.getElem?_cons_succ]; rfl) (fun K hK => ?_) AllReadyH.nil; go_simp; refine hK.out _ _ (by exact hS0) ?_; clear hHeld hK; intro hHeld; (try simp only [Act.put, List.setIfInBounds_toArray, List.set_cons_zero, List.set_cons_succ, hb1, hb2, hb3, Bool.not_true, Bool.not_false, Bool.or_true, Bool.or_false, Bool.true_or, Bool.false_or, BEq.rfl])) | fail
    first | (refine wpAnyH_take (i := 31) (v := ?_) (by simp only [List.getElem?_toArray, List.getElem?_cons_zero, List.getElem?_cons_succ]; rfl) (by kernel_rfl) (by kernel_rfl) (by kernel_rfl) (by exact fun _ _ _ h => h) (Or.inl ⟨by rfl, ?_⟩) (by assumption) ?_; rotate_left; (focus (intro w hSw; (try dsimp only at hSw); go_simp; try with_reducible rfl)); simp only [Act.put, List.setIfInBounds_toArray, List.set_cons_zero, List.set_cons_succ, hb1, hb2, hb3, Bool.not_true, Bool.not_false, Bool.or_true, Bool.or_false, Bool.true_or, Bool.false_or, BEq.rfl]) | (refine wpAnyH_take (i := 31) (v := undef) (by simp only [List.getElem?_toArray, List.getElem?_cons_zero, List.getElem?_cons_succ]; rfl) (by kernel_rfl) (by kernel_rfl) (by kernel_rfl) (by exact fun _ _ _ h => h) (Or.inr ⟨by rfl, rfl⟩) (by assumption) ?_; simp only [Act.put, List.setIfInBounds_toArray, List.set_cons_zero, List.set_cons_succ, hb1, hb2, hb3, Bool.not_true, Bool.not_false, Bool.or_true, Bool.or_false, Bool.true_or, Bool.false_or, BEq.rfl]) | fail
    first | (refine wpAnyH_take (i := 32) (v := ?_) (by simp only [List.getElem?_toArray, List.getElem?_cons_zero, List.getElem?_cons_succ]; rfl) (by kernel_rfl) (by kernel_rfl) (by kernel_rfl) (by exact fun _ _ _ h => h) (Or.inl ⟨by rfl, ?_⟩) (by assumption) ?_; rotate_left; (focus (intro w hSw; (try dsimp only at hSw); go_simp; try with_reducible rfl)); simp only [Act.put, List.setIfInBounds_toArray, List.set_cons_zero, List.set_cons_succ, hb1, hb2, hb3, Bool.not_true, Bool.not_false, Bool.or_true, Bool.or_false, Bool.true_or, Bool.false_or, BEq.rfl]) | (refine wpAnyH_take (i := 32) (v := undef) (by simp only [List.getElem?_toArray, List.getElem?_cons_zero, List.getElem?_cons_succ]; rfl) (by kernel_rfl) (by kernel_rfl) (by kernel_rfl) (by exact fun _ _ _ h => h) (Or.inr ⟨by rfl, rfl⟩) (by assumption) ?_; simp only [Act.put, List.setIfInBounds_toArray, List.set_cons_zero, List.set_cons_succ, hb1, hb2, hb3, Bool.not_true, Bool.not_false, Bool.or_true, Bool.or_false, Bool.true_or, Bool.false_or, BEq.rfl]) | fail
    first | (refine wpAnyH_take (i := 33) (v := ?_) (by simp only [List.getElem?_toArray, List.getElem?_cons_zero, List.getElem?_cons_succ]; rfl) (by kernel_rfl) (by kernel_rfl) (by kernel_rfl) (by exact fun _ _ _ h => h) (Or.inl ⟨by rfl, ?_⟩) (by assumption) ?_; rotate_left; (focus (intro w hSw; (try dsimp only at hSw); go_simp; try with_reducible rfl)); simp only [Act.put, List.setIfInBounds_toArray, List.set_cons_zero, List.set_cons_succ, hb1, hb2, hb3, Bool.not_true, Bool.not_false, Bool.or_true, Bool.or_false, Bool.true_or, Bool.false_or, BEq.rfl]) | (refine wpAnyH_take (i := 33) (v := undef) (by simp only [List.getElem?_toArray, List.getElem?_cons_zero, List.getElem?_cons_succ]; rfl) (by kernel_rfl) (by kernel_rfl) (by kernel_rfl) (by exact fun _ _ _ h => h) (Or.inr ⟨by rfl, rfl⟩) (by assumption) ?_; simp only [Act.put, List.setIfInBounds_toArray, List.set_cons_zero, List.set_cons_succ, hb1, hb2, hb3, Bool.not_true, Bool.not_false, Bool.or_true, Bool.or_false, Bool.true_or, Bool.false_or, BEq.rfl]) | fail
    first | (refine wpAnyH_take (i := 34) (v := ?_) (by simp only [List.getElem?_toArray, List.getElem?_cons_zero, List.getElem?_cons_succ]; rfl) (by kernel_rfl) (by kernel_rfl) (by kernel_rfl) (by exact fun _ _ _ h => h) (Or.inl ⟨by rfl, ?_⟩) (by assumption) ?_; rotate_left; (focus (intro w hSw; (try dsimp only at hSw); go_simp; try with_reducible rfl)); simp only [Act.put, List.setIfInBounds_toArray, List.set_cons_zero, List.set_cons_succ, hb1, hb2, hb3, Bool.not_true, Bool.not_false, Bool.or_true, Bool.or_false, Bool.true_or, Bool.false_or, BEq.rfl]) | (refine wpAnyH_take (i := 34) (v := undef) (by simp only [List.getElem?_toArray, List.getElem?_cons_zero, List.getElem?_cons_succ]; rfl) (by kernel_rfl) (by kernel_rfl) (by kernel_rfl) (by exact fun _ _ _ h => h) (Or.inr ⟨by rfl, rfl⟩) (by assumption) ?_; simp only [Act.put, List.setIfInBounds_toArray, List.set_cons_zero, List.set_cons_succ, hb1, hb2, hb3, Bool.not_true, Bool.not_false, Bool.or_true, Bool.or_false, Bool.true_or, Bool.false_or, BEq.rfl]) | fail
    refine wpAnyH_done (by kernel_rfl) ?_ _
    go_wp2_with fail
    go_ret
    exact ⟨rfl, hS0.bl⟩)
end Go.Proofs.Ytecleampjeebaaa
