/-
  WHAT A STATE TELLS; A LOG THAT IS OPENED UNDER A STOP, AND ONCE MORE; what is kept from round to round while a log is cut off and opened.
-/
import Derived.Test.YtgjnlocokkjejaaWalGroups
import Derived.Test.YtgjnlocokkjejaaWalReopen
namespace Go.Proofs.Ytgjnlocokkjejaa
open Go.RowKit Go.Maps

theorem addOff (x : Addr) (m k : Nat) : x.add (m + (k + 1)) = ⟨(x.add m).block, (x.add m).off + (k + 1), none⟩ := by
  rw [← Go.Deep.add_add]
  simp [Addr.add]

/-- The sectors have what the state says. -/
def Tells (U : Nat → List Int) (S : List ByteArray) : Prop := ∀ k, k < 18 → textOf (U (42 + k)) = wantOf (S.getD k ⟨#[]⟩)
theorem text_some {l : List Int} (h : Sec l) : ¬ textOf l = ⟨#[]⟩ := by
  intro e
  have := text_size l
  rw [e, h.1] at this
  cases this
theorem tells_puts {ps : List PutV} (hb : ∀ x ∈ ps, Sec x.bytes ∧ 42 ≤ x.N ∧ x.N < 60) : ∀ (i : Nat), i ≤ ps.length → ∀ (U : Nat → List Int) (S : List ByteArray), S.length = 18 → Tells U S → Tells (fun k => (userOps ps i).foldl nw U k) (doneOf S (ps.take i))
  | 0, _, U, S, _, h => by simpa [userOps, doneOf] using h
  | i + 1, hi, U, S, hS, h => by
    have ih := tells_puts hb i (by omega) U S hS h
    have hx : ps[i]? = some ps[i] := List.getElem?_eq_getElem (by omega)
    have hxd : ps.getD i zPV = ps[i] := by simp [List.getD, show i < ps.length by omega]
    obtain ⟨b1, b2, b3⟩ := hb ps[i] (List.getElem_mem _)
    rw [doneOf_snoc S ps i _ hx]
    have hl : (doneOf S (ps.take i)).length = 18 := by rw [doneOf_len, hS]
    intro k hk
    have hi2 := ih k hk
    show textOf ((userOps ps (i + 1)).foldl nw U (42 + k)) = _
    rw [userOps_succ, List.foldl_append]
    simp only [List.foldl_cons, List.foldl_nil, nw]
    rw [hxd]
    by_cases e : 42 + k = ps[i].N
    · rw [if_pos e, show ps[i].N - 42 = k by omega]
      have e2 : ((doneOf S (ps.take i)).set k (textOf ps[i].bytes)).getD k ⟨#[]⟩ = textOf ps[i].bytes := by simp [List.getD, hl, hk]
      rw [e2, wantOf, if_neg (text_some b1)]
    · rw [if_neg e]
      have e2 : ((doneOf S (ps.take i)).set (ps[i].N - 42) (textOf ps[i].bytes)).getD k ⟨#[]⟩ = (doneOf S (ps.take i)).getD k ⟨#[]⟩ := by
        rw [List.getD_eq_getElem?_getD, List.getElem?_set_ne (by omega), List.getD_eq_getElem?_getD]
      rw [e2]
      exact hi2

/-- A state is loaded, by an operation that is wanted. -/
theorem wpList_load_stg {ops : Array Oper} {rest : List Oper} {o : Oper} {a : Act} {w : World} {Q : Exit → Act → World → Prop} (hw : Region.wanted o (yielded ops a.tmps) = true) (x : Operand) (ho : o.op = .load 58 x) (b : Nat) (hx : a.eval x = .pointer (some ⟨b, 0, none⟩)) (S : List ByteArray) (hs : S.length = 18) (hr : w.rangeAt b 0 (stCells S))
    (h : wpList Try.prog ops Q rest (a.put o.dst (stOf S)) w) : wpList Try.prog ops Q (o :: rest) a w :=
  wpList_step fun K hK => by
    rw [if_pos hw]
    exact wp_load_mid _ x ho b 0 hx (stCells S) _ hr Try.underlying58 rfl (by rw [size_st, st_len, hs]) (hK _ _ h)


theorem run_dead : ∀ (r : List DOp) {σ σ1 : Dsk}, σ.run r = (σ1, false) → σ1.dead = true
  | [], σ, σ1, h => by simp [Dsk.run] at h
  | o :: r, σ, σ1, h => by
    by_cases hl : σ.left = 1
    · rw [Dsk.run_stop hl] at h
      obtain ⟨rfl, _⟩ := Prod.mk.inj h
      rfl
    · rw [Dsk.run_go hl] at h; exact run_dead r h
theorem idle_safe {n : Nat} {σ : Dsk} {U : Nat → List Int} {s : Int} (hb : σ.bf = fun _ => none) (h : IdleP n σ.pl U s) : SafeP n σ (fun V t => V = U ∧ t = s) := fun p hp =>
  ⟨U, s, ⟨rfl, rfl⟩, Or.inl (h.of_same ((hp 0).1 (by rw [hb])) (fun k _ _ => (hp k).1 (by rw [hb])))⟩
theorem fresh_idleN (n : Nat) : IdleP n freshDsk.pl (fun _ => zeros) 0 := ⟨by decide, by decide, fun _ _ _ => rfl⟩

section
variable {w : World} {db pb mb n B : Nat} {V : Nat → List Int} {t : Int}
/-- Stop, in plain words. -/
theorem stopAt {σ : Dsk} (h : DiskIs w db pb mb n B σ) (k : Int) (h0 : 0 ≤ k) (h1 : k < 1000000) :
    Calls Try.prog 18 #[.pointer (some ⟨db, 0, none⟩), .int .i64 k] w fun e w' => e = .returned (.tuple #[]) ∧ DiskIs w' db pb mb n B { σ with left := k } ∧ Kept [db] w w' := by
  obtain ⟨nn, D, ops, hD, hf, a, b, c, d, e⟩ := h
  refine (stop_any hD k).mono ?_
  rintro e w' ⟨rfl, hd, hk⟩
  rw [show max k 0 = k by omega] at hd
  exact ⟨rfl, ⟨nn, D, ops, hd, hf, a, b, c, h0, h1⟩, hk⟩
theorem deadAt {σ : Dsk} (h : DiskIs w db pb mb n B σ) :
    Calls Try.prog 22 #[.pointer (some ⟨db, 0, none⟩)] w fun e w' => e = .returned (.bool σ.dead) ∧ Kept [] w w' := by
  obtain ⟨nn, D, ops, hD, _⟩ := h
  refine (dead_any hD).mono ?_
  rintro e w' ⟨rfl, rfl⟩
  exact ⟨rfl, Kept.refl _ _⟩
theorem withinAt (a b : Int) (h0 : 0 < b) (h1 : b < 1000000) (w : World) : Calls Try.prog 26 #[.int .i64 a, .int .i64 b] w fun e w' => e = .returned (.int .i64 (a % b)) ∧ Kept [] w w' := by
  refine (within_any a b h0 h1 w).mono ?_
  rintro e w' ⟨rfl, rfl⟩
  exact ⟨rfl, Kept.refl _ _⟩
/-- A crash whose picks came in. -/
theorem crashAt {w0 : World} {σ : Dsk} (h : DiskIs w0 db pb mb n B σ) (hB : B ≤ 1000000) {a : Option Addr} {len : Nat} {zs : List Int} (hZ : NumsAt w a len zs) (k : Kept [] w w0) (hpb : w.heap.size ≤ pb) (cap : Nat) :
    Calls Try.prog 20 #[.pointer (some ⟨db, 0, none⟩), .slice a len cap] w0 fun e w' => ∃ r, e = .returned (.int .i64 r) ∧ ∃ p, Torn σ p ∧ DiskIs w' db pb mb n B (risen p) ∧ Kept [db, pb, mb] w0 w' := by
  have hZ5 := hZ.grown k
  have cX := Crash_any h hB zs a cap (by
    by_cases h0 : len = 0
    · left; have := hZ.1; exact List.eq_nil_of_length_eq_zero (by omega)
    · right
      obtain ⟨y, rfl, hy⟩ := hZ5.2 (by omega)
      obtain ⟨y', e', hy'⟩ := hZ.2 (by omega)
      cases e'
      exact ⟨y, rfl, fun j hj => ⟨hy j (by have := hZ.1; omega), by have := World.block_lt_of_cell? _ _ (hy' j (by have := hZ.1; omega)); omega⟩⟩)
  rw [hZ.1] at cX
  exact cX
theorem open_cut {p : Nat → List Int} {k : Int} (h : DiskIs w db pb mb n B { risen p with left := k }) (hn : 42 < n) (hB : B < 500000) (ha : 0 ≤ t) (hb : t < 900000) (hp : IdleP n p V t ∨ ∃ m, DueP n p V t m) :
    Calls Try.prog 25 #[.pointer (some ⟨db, 0, none⟩)] w fun e w' => (∃ x c, e = .returned (.tuple #[.pointer x, .int .i64 c])) ∧ (∃ σ, DiskIs w' db pb mb n (B + 43) σ ∧ SafeP n σ (fun V' t' => V' = V ∧ t' = t)) ∧ Kept [db, pb, mb] w w' := by
  rcases hp with hp | ⟨m, hp⟩
  · have hI : IdleOn { risen p with left := k } t := hp.on rfl ha hb
    refine (open_idle h rfl hn hI).mono ?_
    rintro e w' ⟨lb, rfl, hl, hL, hk⟩
    exact ⟨⟨_, _, rfl⟩, ⟨_, hL.disk.mono (by omega), idle_safe rfl hp⟩, hk.mono (by simp)⟩
  · have hs0 := h.sec 0 (by omega)
    have hD : DueOn { risen p with left := k } n m := ⟨hp.state, le_top _ hs0 hp.top, hp.count, hp.few, by
      show le ((p 1).take 8) < _
      rw [hp.seq, le_enc8 t ha (by omega)]; omega, hp.nums⟩
    obtain ⟨t1, t2, t3, t4⟩ := tail_safe (σ := { risen p with left := k }) rfl hp hs0.1 ha (by omega)
    obtain ⟨⟨σ1, ok⟩, hr⟩ : ∃ x, ({ risen p with left := k } : Dsk).run (dueOps { risen p with left := k } (({ risen p with left := k } : Dsk).newest 1) m) = x := ⟨_, rfl⟩
    cases ok with
    | true =>
      have hσ := run_all _ hr
      rw [← hσ] at t2 t3
      refine (open_due_ok h rfl hn (by omega) hD hr).mono ?_
      rintro e w' ⟨lb, rfl, hl, hL, hk⟩
      exact ⟨⟨_, _, rfl⟩, ⟨_, hL.disk, idle_safe t2 t3⟩, hk⟩
    | false =>
      refine (open_due_dies h rfl hn (by omega) hD hr).mono ?_
      rintro e w' ⟨rfl, hd, hk⟩
      exact ⟨⟨_, _, rfl⟩, ⟨_, hd, safe_dies _ t1 hr⟩, hk⟩
theorem reopen2 {p : Nat → List Int} (h : DiskIs w db pb mb n B (risen p)) (hn : 42 < n) (hB : B < 500000) (ha : 0 ≤ t) (hb : t < 900000) (hp : IdleP n p V t ∨ ∃ m, DueP n p V t m) :
    Calls Try.prog 25 #[.pointer (some ⟨db, 0, none⟩)] w fun e w' => ∃ lb, e = .returned (.tuple #[.pointer (some ⟨lb, 0, none⟩), .int .i64 0]) ∧ w.heap.size ≤ lb ∧ Works w' lb db pb mb n (B + 43) V t ∧ (∃ σ, DiskIs w' db pb mb n (B + 43) σ ∧ SafeP n σ (fun V' t' => V' = V ∧ t' = t)) ∧ Kept [db, pb, mb] w w' := by
  have hnew : ∀ k, (risen p).newest k = p k := fun k => rfl
  rcases hp with hp | ⟨m, hp⟩
  · have hI : IdleOn (risen p) t := hp.on rfl ha hb
    refine (open_idle h rfl hn hI).mono ?_
    rintro e w' ⟨lb, rfl, hl, hL, hk⟩
    exact ⟨lb, rfl, hl, ⟨⟨risen p, t, hL.mono (by omega), rfl, rfl, hI, fun k h1 h2 => hp.user k h1 h2⟩, hn⟩, ⟨_, hL.disk.mono (by omega), idle_safe rfl hp⟩, hk.mono (by simp)⟩
  · have hs0 := h.sec 0 (by omega)
    have hD : DueOn (risen p) n m := ⟨hp.state, le_top _ hs0 hp.top, hp.count, hp.few, by
      show le ((p 1).take 8) < _
      rw [hp.seq, le_enc8 t ha (by omega)]; omega, hp.nums⟩
    obtain ⟨t1, t2, t3, t4⟩ := tail_safe (σ := risen p) rfl hp hs0.1 ha (by omega)
    have hlive := run_live (dueOps (risen p) ((risen p).newest 1) m) (σ := risen p) rfl
    obtain ⟨⟨σ1, ok⟩, hr⟩ : ∃ x, (risen p).run (dueOps (risen p) ((risen p).newest 1) m) = x := ⟨_, rfl⟩
    rw [hr] at hlive
    obtain ⟨rfl, hl0⟩ : ok = true ∧ σ1.left = 0 := hlive
    have hσ := run_all _ hr
    rw [← hσ] at t2 t3
    have hle : le (((risen p).newest 1).take 8) = t := by rw [hnew, hp.seq, le_enc8 t ha (by omega)]
    have hn1 : ∀ k, σ1.newest k = σ1.pl k := fun k => by simp [Dsk.newest, t2]
    refine (open_due_ok h rfl hn (by omega) hD hr).mono ?_
    rintro e w' ⟨lb, rfl, hl, hL, hk⟩
    exact ⟨lb, rfl, hl, ⟨⟨σ1, _, hL, (Dsk.run_alive _ hr), hl0, t3.on (hn1 0) ha hb, fun k h1 h2 => by rw [hn1]; exact t3.user k h1 h2⟩, hn⟩, ⟨_, hL.disk, idle_safe t2 t3⟩, hk⟩
end

/-- What may come out of a crash: the one state or the other. -/
def Out (S N : List ByteArray) (V : Nat → List Int) (t : Int) : Prop := (Tells V S ∨ Tells V N) ∧ 0 ≤ t ∧ t ≤ 1000
/-- The blocks lie apart. -/
structure Far (w : World) (db pb mb lb sb nb : Nat) : Prop where
  d : w.heap.size ≤ db
  p : w.heap.size ≤ pb
  m : w.heap.size ≤ mb
  l : w.heap.size ≤ lb
  d1 : db < sb
  p1 : pb < sb
  m1 : mb < sb
  l1 : lb < sb
  n1 : sb < nb
/-- While groups are committed. -/
structure L1 (w : World) (db pb mb lb sb nb : Nat) (wr : World) (q : Int) (S N : List ByteArray) (σ : Dsk) (B : Nat) : Prop where
  disk : DiskIs wr db pb mb 60 B σ
  few : (B : Int) ≤ 90 * q
  s : StAt wr sb S
  n : StAt wr nb N
  safe : SafeP 60 σ (Out S N)
  kept : Kept [] w wr
  live : σ.dead = false → ∃ s1 U sq, LogIs wr lb db pb mb 60 B σ s1 ∧ σ.bf = (fun _ => none) ∧ IdleP 60 σ.pl U sq ∧ 0 ≤ sq ∧ sq ≤ q ∧ Tells U S
section
variable {w wr W : World} {db pb mb lb sb nb : Nat} {q : Int} {S N : List ByteArray} {σ : Dsk} {B : Nat}
theorem L1.on (h : L1 w db pb mb lb sb nb wr q S N σ B) (k : Kept [] wr W) : L1 w db pb mb lb sb nb W q S N σ B :=
  ⟨h.disk.kept k (by simp) (by simp) (by simp), h.few, h.s.kept k (by simp), h.n.kept k (by simp), h.safe, h.kept.trans k, fun hd => by
    obtain ⟨s1, U, sq, hL, r⟩ := h.live hd
    exact ⟨s1, U, sq, hL.same k, r⟩⟩
theorem L1.next (h : L1 w db pb mb lb sb nb wr q S N σ B) : L1 w db pb mb lb sb nb wr (q + 1) S N σ B :=
  ⟨h.disk, by have := h.few; omega, h.s, h.n, h.safe, h.kept, fun hd => by
    obtain ⟨s1, U, sq, hL, a, b, c, d, e⟩ := h.live hd
    exact ⟨s1, U, sq, hL, a, b, c, by omega, e⟩⟩
theorem live_out {U : Nat → List Int} {sq : Int} (hb : σ.bf = fun _ => none) (hI : IdleP 60 σ.pl U sq) (h0 : 0 ≤ sq) (h1 : sq ≤ 1000) (hT : Tells U S) : SafeP 60 σ (Out S N) :=
  (idle_safe hb hI).more fun V t ⟨a, b⟩ => by subst a; subst b; exact ⟨Or.inl hT, h0, h1⟩
theorem L1.put_n (h : L1 w db pb mb lb sb nb wr q S N σ B) (hf : Far w db pb mb lb sb nb) (hq : q ≤ 100) (hd : σ.dead = false) {N' : List ByteArray} (hN : N'.length = 18) (hW : wr.setCells nb 0 (stCells N') = W) : L1 w db pb mb lb sb nb W q S N' σ B := by
  obtain ⟨a, k⟩ := st_stored h.n hN
  rw [hW] at a k
  obtain ⟨f1, f2, f3, f4, f5, f6, f7, f8, f9⟩ := hf
  obtain ⟨s1, U, sq, hL, c, d, e, f, g⟩ := h.live hd
  exact ⟨h.disk.kept k (by simp; omega) (by simp; omega) (by simp; omega), h.few, h.s.kept k (by simp; omega), a, live_out c d e (by omega) g, (h.kept.mono (by simp)).trans k |>.fewer (by simp; omega), fun _ =>
    ⟨s1, U, sq, hL.kept k (by simp; omega) (by simp; omega) (by simp; omega) (by simp; omega), c, d, e, f, g⟩⟩
theorem L1.put_s (h : L1 w db pb mb lb sb nb wr q S N σ B) (hf : Far w db pb mb lb sb nb) (hW : wr.setCells sb 0 (stCells S) = W) : L1 w db pb mb lb sb nb W q S N σ B := by
  obtain ⟨a, k⟩ := st_stored h.s h.s.len
  rw [hW] at a k
  obtain ⟨f1, f2, f3, f4, f5, f6, f7, f8, f9⟩ := hf
  exact ⟨h.disk.kept k (by simp; omega) (by simp; omega) (by simp; omega), h.few, a, h.n.kept k (by simp; omega), h.safe, (h.kept.mono (by simp)).trans k |>.fewer (by simp; omega), fun hd => by
    obtain ⟨s1, U, sq, hL, r⟩ := h.live hd
    exact ⟨s1, U, sq, hL.kept k (by simp; omega) (by simp; omega) (by simp; omega) (by simp; omega), r⟩⟩
end
/-- While it is opened anew. -/
structure L2 (w : World) (db pb mb sb nb : Nat) (S N : List ByteArray) (wr : World) (q : Int) (σ : Dsk) (B : Nat) : Prop where
  disk : DiskIs wr db pb mb 60 B σ
  few : (B : Int) ≤ 9000 + 43 * q
  s : StAt wr sb S
  n : StAt wr nb N
  safe : SafeP 60 σ (Out S N)
  kept : Kept [] w wr
/-- While a log that was opened is looked at. -/
structure FsZ (w : World) (db pb mb lh sb nb : Nat) (S N : List ByteArray) (V : Nat → List Int) (t : Int) (σ : Dsk) (B : Nat) (W : World) : Prop where
  s : StAt W sb S
  n : StAt W nb N
  works : Works W lh db pb mb 60 B V t
  disk : DiskIs W db pb mb 60 B σ
  kept : Kept [] w W
theorem FsZ.on {w W W' : World} {db pb mb lh sb nb : Nat} {S N : List ByteArray} {V : Nat → List Int} {t : Int} {σ : Dsk} {B : Nat} (h : FsZ w db pb mb lh sb nb S N V t σ B W) (hw : Works W' lh db pb mb 60 B V t) (k : Kept [lh] W W') (h0 : w.heap.size ≤ lh) (h1 : nb < lh) (h2 : sb < lh) (h3 : db < lh) (h4 : pb < lh) (h5 : mb < lh) : FsZ w db pb mb lh sb nb S N V t σ B W' :=
  ⟨h.s.kept k (by simp; omega), h.n.kept k (by simp; omega), hw, h.disk.kept k (by simp; omega) (by simp; omega) (by simp; omega), (h.kept.mono (by simp)).trans k |>.fewer (by simp; omega)⟩
theorem FsZ.drew {w W : World} {db pb mb lh sb nb : Nat} {S N : List ByteArray} {V : Nat → List Int} {t : Int} {σ : Dsk} {B : Nat} (h : FsZ w db pb mb lh sb nb S N V t σ B W) : FsZ w db pb mb lh sb nb S N V t σ B W.drew := by
  have k : Kept [] W W.drew := (Kept.refl [] W).drew
  exact ⟨h.s.kept k (by simp), h.n.kept k (by simp), h.works.kept k (by simp) (by simp) (by simp) (by simp), h.disk.kept k (by simp) (by simp) (by simp), h.kept.trans k⟩
end Go.Proofs.Ytgjnlocokkjejaa
