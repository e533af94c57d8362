/-
  WHAT STAGE 10'S LAWS SHARE: nodes in a block of the law's own, parts of rows of bytes.
-/
import Derived.Test.YtecleampjeebaaaNodeFns
import Derived.Test.YtecleampjeebaaaNodePlain
namespace Go.Proofs.Ytecleampjeebaaa
open Go.RowKit
set_option linter.unusedSimpArgs false
set_option linter.unusedVariables false

/-- A node's sixteen cells. -/
def nl (n : Nod) (va vw : Value) : List Value := [.string n.path, .bool n.dir, .int .i64 n.label.s, .int .i64 n.label.c, .int .i64 n.label.i, .int .i64 n.label.k, va, .int .i64 n.r1, .int .i64 n.r2, .int .i64 n.r3, .int .i64 n.gates, vw, .int .i64 n.by_.s, .int .i64 n.by_.c, .int .i64 n.by_.i, .int .i64 n.by_.k]
theorem nl_one (n : Nod) (a b : Option Addr) (c d e f : Nat) : ∀ v ∈ nl n (.slice a c d) (.slice b e f), v.oneCell' = true := by simp [nl, Value.oneCell']
theorem nl_sz (n : Nod) (va vw : Value) : (Try.prog.info? 29).map (·.size) = some (nl n va vw).length := by
  rw [show (nl n va vw).length = 16 from rfl]
  kernel_rfl
theorem und_node : Try.prog.underlying 29 = some (.struct (Try.prog.fieldsOf 29)) := by kernel_rfl
theorem plain_Plain {n : Nod} (h : fewN n = true) (hw : ∀ x ∈ n.words, -9223372036854775808 ≤ x ∧ x ≤ 9223372036854775807) : (plainN n).Plain := by
  have hn1 : n.path.size < 1000 ∧ n.acl.length < 40 ∧ n.words.length < 100 := by simpa [fewN] using h
  have good_byte : ∀ l : Lab, (goodL l).Byte := fun l => by
    have := good_GL l
    exact ⟨⟨this.s0, by have := this.s1; omega⟩, ⟨this.c0, by have := this.c1; omega⟩, ⟨this.i0, by have := this.i1; omega⟩, ⟨this.k0, by have := this.k1; omega⟩⟩
  have hr := goodR_ok ⟨n.r1, n.r2, n.r3, n.gates⟩
  obtain ⟨r1, r2, r3, r4, r5, r6⟩ := hr
  have hl : (plainG n.acl).length ≤ n.acl.length := plainG_len n.acl
  refine ⟨cut255_lt _, good_byte _, good_byte _, ?_, fun g hg => ?_, ?_, ?_, ?_, ?_, ?_, hw⟩
  · show (plainG n.acl).length < 256
    omega
  · obtain ⟨q, hq, rfl⟩ := List.mem_map.1 (show g ∈ plainG n.acl from hg)
    have h1 := (List.mem_filter.1 hq).2
    simp at h1
    exact ⟨by show q.u.size < 256; omega, by show 0 ≤ q.m % 256; omega, by show q.m % 256 < 256; omega⟩
  · show 0 ≤ (ringN n).a ∧ (ringN n).a < 256
    unfold ringN
    omega
  · show 0 ≤ (ringN n).b ∧ (ringN n).b < 256
    unfold ringN
    omega
  · show 0 ≤ (ringN n).c ∧ (ringN n).c < 256
    unfold ringN
    omega
  · show 0 ≤ (ringN n).g ∧ (ringN n).g < 256
    unfold ringN
    omega
  · show n.words.length < 256
    omega
theorem few_len {n : Nod} (h : fewN n = true) : n.acl.length ≤ 1000000 ∧ n.words.length ≤ 1000000 := by
  have hn1 : n.path.size < 1000 ∧ n.acl.length < 40 ∧ n.words.length < 100 := by simpa [fewN] using h
  omega
theorem BytesAt.front {W : World} {a : Option Addr} {n : Nat} {l : List UInt8} (h : BytesAt W a n l) {k : Nat} (hk : k ≤ n) : BytesAt W a k (l.take k) := by
  refine ⟨by rw [List.length_take, h.1]; omega, fun j hj => ?_⟩
  obtain ⟨y, hy, hc⟩ := h.2 j (by omega)
  refine ⟨y, hy, ?_⟩
  rw [hc]
  simp [List.getD_eq_getElem?_getD, List.getElem?_take_of_lt hj]
theorem OwnB.long {w : World} {base : Nat} {v : Value} {l : List UInt8} (h : OwnB w base v l) : ∃ a cap, v = .slice a l.length cap ∧ l.length ≤ cap ∧ (a = none → cap = 0) ∧ BytesAt w a l.length l := by
  obtain ⟨a, cap, hv, hb⟩ := h.slice
  subst hv
  rcases h.2 with ⟨h1, h2⟩ | ⟨g, cap', cur, h1, _, _, hc, _⟩
  · injection h1 with e1 e2 e3
    exact ⟨a, cap, rfl, by omega, fun _ => e3, hb⟩
  · injection h1 with e1 e2 e3
    exact ⟨a, cap, rfl, by omega, fun q => (by rw [e1] at q; cases q), hb⟩
theorem GrsAt.far {W W' : World} {a : Option Addr} {l : List Gr} (h : GrsAt W a l) (hb : ∀ y, a = some y → W'.heap[y.block]? = W.heap[y.block]?) : GrsAt W' a l := fun j q hq => by
  obtain ⟨y, hy, h1, h2⟩ := h j q hq
  have hk : ∀ o s, W'.cell? ⟨(y.add (j * 2)).block, o, s⟩ = W.cell? ⟨(y.add (j * 2)).block, o, s⟩ := fun o s => World.cell?_of_block (a := ⟨(y.add (j * 2)).block, o, s⟩) (by rw [add_block]; exact hb y hy)
  exact ⟨y, hy, (hk _ _).trans h1, (hk _ _).trans h2⟩
theorem front_slice (a : Option Addr) (n cap k : Nat) (hk : k ≤ cap) (hne : a ≠ none) (W : World) : (Instr.slice 34 (.slice a n cap) none (some (.int .i64 (k : Int))) none).run Try.prog W = .ok (.slice a k cap) W := by
  obtain ⟨i, hi, hz, hs, hb⟩ := info_u8s
  cases a with
  | none => exact absurd rfl hne
  | some y =>
    rw [run_slice_h (P := Try.prog) W 34 (some y) n cap Try.underlying34 .i64 (k : Int) (by omega) (by omega)]
    rw [show (Try.prog.elem 34) = 5 by kernel_rfl]
    simp [sizeOf, typeInfo, hi, hs, sliced]
    exact fun _ => by simp [Addr.add]
theorem own_empty (W : World) : OwnB (W.alloc (.cells #[] 5)) W.heap.size (.slice (some ⟨W.heap.size, 0, none⟩) 0 0) [] := by
  refine ⟨rfl, .inr ⟨W.heap.size, 0, #[], rfl, Nat.le_refl _, ?_, Nat.le_refl _, by simp [maxLen], rfl, rfl⟩⟩
  exact heap_alloc_new W _
theorem blk_zero (W : World) (cs : List Value) (hl : cs.length = 16) : (W.alloc (.cells nzero.toArray 29)).there W.heap.size 0 cs.length := by
  rw [hl]
  exact (blk_alloc W nzero.toArray 29).there
/-! The contracts, of nodes by their cells. -/
theorem few_nl (n : Nod) (aa : Option Addr) (ca : Nat) (wa : Option Addr) (cw : Nat) (w : World) :
    Calls Try.prog 9 #[.agg (nl n (.slice aa n.acl.length ca) (.slice wa n.words.length cw)).toArray] w fun e w' => e = .returned (.bool (fewN n)) ∧ Below w.heap.size w w' := few_any n aa ca wa cw w
theorem plain_nl (n : Nod) (aa : Option Addr) (ca : Nat) (wa : Option Addr) (cw : Nat) (hn : fewN n = true) (hsz : ∀ g ∈ n.acl, g.u.size ≤ 9223372036854775807) (w : World) (hG : GrsAt w aa n.acl) :
    Calls Try.prog 12 #[.agg (nl n (.slice aa n.acl.length ca) (.slice wa n.words.length cw)).toArray] w fun e w' => ∃ ap cp, e = .returned (.agg (nl (plainN n) (.slice ap (plainN n).acl.length cp) (.slice wa (plainN n).words.length cw)).toArray) ∧ GrsAt w' ap (plainN n).acl ∧ ((∀ y, ap = some y → w.heap.size ≤ y.block) ∧ (ap = none → cp = 0) ∧ (plainN n).acl.length ≤ cp) ∧ Below w.heap.size w w' := by
  refine (plain_any n aa ca wa cw hn hsz w hG).mono ?_
  rintro e w' ⟨va, rfl, hO, hB⟩
  obtain ⟨ap, cp, rfl, hle, hno, hr⟩ := hO.slice gr_ok.len
  exact ⟨ap, cp, rfl, hr.grs, ⟨fun y hy => (hO.lt (by rw [hy]; rfl)).1, hno, hle⟩, hB⟩
theorem enc_nl (n : Nod) (aa : Option Addr) (ca : Nat) (wa : Option Addr) (cw : Nat) (hm : n.Plain) (w : World) (hG : GrsAt w aa n.acl) (hW : WrdsAt w wa n.words) :
    Calls Try.prog 13 #[.agg (nl n (.slice aa n.acl.length ca) (.slice wa n.words.length cw)).toArray] w fun r w' => ∃ a cap, r = .returned (.slice a (encN n).length cap) ∧ OwnB w' w.heap.size (.slice a (encN n).length cap) (encN n) ∧ (encN n).length ≤ cap ∧ (a = none → cap = 0) ∧ BytesAt w' a (encN n).length (encN n) ∧ Below w.heap.size w w' := by
  refine (nencN_any n aa ca wa cw hm w hG hW).mono ?_
  rintro e w' ⟨v, rfl, hO, hB⟩
  obtain ⟨a, cap, rfl, h1, h2, h3⟩ := hO.long
  exact ⟨a, cap, rfl, hO, h1, h2, h3, hB⟩
theorem renc_nl (n : Nod) (aa : Option Addr) (ca : Nat) (wa : Option Addr) (cw : Nat) (hm : n.Plain) (w : World) (hG : GrsAt w aa n.acl) (hW : WrdsAt w wa n.words) :
    Calls Try.prog 15 #[.agg (nl n (.slice aa n.acl.length ca) (.slice wa n.words.length cw)).toArray] w fun r w' => ∃ a cap, r = .returned (.slice a (encN n).length cap) ∧ OwnB w' w.heap.size (.slice a (encN n).length cap) (encN n) ∧ (encN n).length ≤ cap ∧ (a = none → cap = 0) ∧ BytesAt w' a (encN n).length (encN n) ∧ Below w.heap.size w w' := by
  refine (rencN_any n aa ca wa cw ⟨by have := hm.p; omega, by have := hm.a; omega, fun q hq => by have := (hm.g q hq).1; omega, by have := hm.w; omega⟩ w hG hW).mono ?_
  rintro e w' ⟨v, rfl, hO, hB⟩
  obtain ⟨a, cap, rfl, h1, h2, h3⟩ := hO.long
  exact ⟨a, cap, rfl, hO, h1, h2, h3, hB⟩
theorem par_nl (a : Option Addr) (n cap : Nat) (l : List UInt8) (hn : n < 1000000) (hnc : n ≤ cap) (w : World) (hb : BytesAt w a n l) :
    Calls Try.prog 14 #[.slice a n cap] w fun e w' => ∃ aa ca wa cw, e = .returned (.tuple #[.agg (nl (nodP l) (.slice aa (nodP l).acl.length ca) (.slice wa (nodP l).words.length cw)).toArray, .int .i64 (nodE l)]) ∧ GrsAt w' aa (nodP l).acl ∧ WrdsAt w' wa (nodP l).words ∧ Below w.heap.size w w' := by
  refine (nnod_any a n cap l hn hnc w hb).mono ?_
  rintro e w' ⟨va, vw, rfl, hO, hP, hB⟩
  obtain ⟨aa, ca, rfl, -, -, hr⟩ := hO.slice gr_ok.len
  obtain ⟨wa, cw, rfl, -, -, hs⟩ := hP.slice wd_ok.len
  exact ⟨aa, ca, wa, cw, rfl, hr.grs, hs.wrds, hB⟩
theorem rpar_nl (a : Option Addr) (n cap : Nat) (l : List UInt8) (hn : n < 1000000) (hnc : n ≤ cap) (w : World) (hb : BytesAt w a n l) :
    Calls Try.prog 16 #[.slice a n cap] w fun e w' => ∃ aa ca wa cw, e = .returned (.tuple #[.agg (nl (nodP l) (.slice aa (nodP l).acl.length ca) (.slice wa (nodP l).words.length cw)).toArray, .int .i64 (nodE l)]) ∧ GrsAt w' aa (nodP l).acl ∧ WrdsAt w' wa (nodP l).words ∧ Below w.heap.size w w' := by
  refine (rnod_any a n cap l hn hnc w hb).mono ?_
  rintro e w' ⟨va, vw, rfl, hO, hP, hB⟩
  obtain ⟨aa, ca, rfl, -, -, hr⟩ := hO.slice gr_ok.len
  obtain ⟨wa, cw, rfl, -, -, hs⟩ := hP.slice wd_ok.len
  exact ⟨aa, ca, wa, cw, rfl, hr.grs, hs.wrds, hB⟩
theorem same_nl (x y : Nod) (aa : Option Addr) (ca : Nat) (wa : Option Addr) (cw : Nat) (ab : Option Addr) (cb : Nat) (wb : Option Addr) (cd : Nat) (hx1 : x.acl.length ≤ 1000000) (hx2 : x.words.length ≤ 1000000) (hy1 : y.acl.length ≤ 1000000) (hy2 : y.words.length ≤ 1000000) (w : World) (gx : GrsAt w aa x.acl) (gz : GrsAt w ab y.acl) (wx : WrdsAt w wa x.words) (wz : WrdsAt w wb y.words) :
    Calls Try.prog 10 #[.agg (nl x (.slice aa x.acl.length ca) (.slice wa x.words.length cw)).toArray, .agg (nl y (.slice ab y.acl.length cb) (.slice wb y.words.length cd)).toArray] w fun e w' => e = .returned (.bool (nodEq x y)) ∧ Below w.heap.size w w' := nsame_any x y aa ca wa cw ab cb wb cd hx1 hx2 hy1 hy2 w gx gz wx wz
theorem rsame_nl (x y : Nod) (aa : Option Addr) (ca : Nat) (wa : Option Addr) (cw : Nat) (ab : Option Addr) (cb : Nat) (wb : Option Addr) (cd : Nat) (hx1 : x.acl.length ≤ 1000000) (hx2 : x.words.length ≤ 1000000) (w : World) (gx : GrsAt w aa x.acl) (gz : GrsAt w ab y.acl) (wx : WrdsAt w wa x.words) (wz : WrdsAt w wb y.words) :
    Calls Try.prog 11 #[.agg (nl x (.slice aa x.acl.length ca) (.slice wa x.words.length cw)).toArray, .agg (nl y (.slice ab y.acl.length cb) (.slice wb y.words.length cd)).toArray] w fun e w' => e = .returned (.bool (nodEq x y)) ∧ Below w.heap.size w w' := rsame_any x y aa ca wa cw ab cb wb cd hx1 hx2 w gx gz wx wz
/-- Bytes as a text. -/
theorem bytes_text {W : World} {a : Option Addr} {n cap : Nat} {l : List UInt8} (h : BytesAt W a n l) (hc : a = none → cap = 0) : (convert 34 9 (.slice a n cap)).run Try.prog W = .ok (.string ⟨l.toArray⟩) W := by
  cases a with
  | none =>
    have h0 : n = 0 := by
      rcases Nat.eq_zero_or_pos n with h0 | h0
      · exact h0
      · obtain ⟨y, hy, _⟩ := h.2 0 h0
        cases hy
    subst h0
    have hl : l = [] := List.eq_nil_of_length_eq_zero h.1
    subst hl
    rw [hc rfl, run_convert_bytes_string W 34 9 5 none 0 0 Try.underlying34 Try.underlying5 Try.underlying9]
    rfl
  | some y =>
    have := run_convert_bytes_back (P := Try.prog) W 34 9 5 y cap l Try.underlying34 Try.underlying5 Try.underlying9 fun j hj => by
      obtain ⟨y', hy', hc⟩ := h.2 j (by rw [← h.1]; exact hj)
      obtain rfl := Option.some.inj hy'
      rw [hc]
      simp [List.getD_eq_getElem?_getD, List.getElem?_eq_getElem hj]
    rw [h.1] at this
    exact this
/-- What the grants ahead of a place come to, in bytes. -/
def gsum (l : List Gr) (i : Nat) : Nat := ((l.take i).map fun g => 2 + g.u.size).sum
theorem gsum_succ {l : List Gr} {i : Nat} {q : Gr} (h : l[i]? = some q) : gsum l (i + 1) = gsum l i + (2 + q.u.size) := by
  unfold gsum
  rw [List.take_add_one, h]
  simp
theorem gsum_le {l : List Gr} (h : ∀ g ∈ l, g.u.size < 256) : ∀ i, i ≤ l.length → gsum l i ≤ i * 257 := fun i => by
  induction i with
  | zero => intro _; simp [gsum]
  | succ i ih =>
    intro hi
    have hq : l[i]? = some l[i] := List.getElem?_eq_getElem (by omega)
    have := h l[i] (List.getElem_mem _)
    rw [gsum_succ hq]
    have := ih (by omega)
    omega
theorem encN_sum (n : Nod) : (encN n).length = 16 + n.path.size + 8 * n.words.length + gsum n.acl n.acl.length := by
  rw [encN_len]
  unfold gsum
  rw [List.take_length]
  omega
/-- Two structs in the law's first two blocks. -/
structure TwoL (w W : World) (cs ds : List Value) : Prop where
  b0 : Blk W w.heap.size cs
  b1 : Blk W (w.heap.size + 1) ds
  bl : Below w.heap.size w W
  lt : w.heap.size + 2 ≤ W.heap.size
theorem TwoL.then {w W W' : World} {cs ds : List Value} (h : TwoL w W cs ds) (b : Below W.heap.size W W') : TwoL w W' cs ds := by
  have := h.lt
  exact ⟨h.b0.same (b.block _ (by omega)), h.b1.same (b.block _ (by omega)), Below.then h.bl b, Nat.le_trans h.lt b.size⟩
theorem twol_start (w : World) (cs ds : Array Value) (T U : TypeId) : TwoL w ((w.alloc (.cells cs T)).alloc (.cells ds U)) cs.toList ds.toList := by
  have b1 := alloc_below w (.cells cs T)
  have m1 := blk_alloc w cs T
  have s1 := World.size_alloc w (.cells cs T)
  generalize w.alloc (.cells cs T) = W1 at *
  have b2 := alloc_below W1 (.cells ds U)
  have m2 := blk_alloc W1 ds U
  have s2 := World.size_alloc W1 (.cells ds U)
  rw [s1] at m2
  exact ⟨m1.same (b2.block _ (by omega)), m2, Below.then b1 b2, by omega⟩
theorem TwoL.drew {w W : World} {cs ds : List Value} (h : TwoL w W cs ds) : TwoL w W.drew cs ds := ⟨h.b0, h.b1, h.bl.drew, h.lt⟩
theorem TwoL.set0 {w W : World} {cs ds : List Value} (h : TwoL w W cs ds) (k : Nat) (v : Value) (hk : k < cs.length) : TwoL w (W.setCell ⟨w.heap.size, k, none⟩ v) (cs.set k v) ds :=
  ⟨h.b0.set k v hk, h.b1.same (heap_setCell_other _ ⟨w.heap.size, k, none⟩ _ _ (by simp)), h.bl.setCell (p := ⟨w.heap.size, k, none⟩) (Nat.le_refl _) _, by simpa using h.lt⟩
theorem TwoL.set1 {w W : World} {cs ds : List Value} (h : TwoL w W cs ds) (k : Nat) (v : Value) (hk : k < ds.length) : TwoL w (W.setCell ⟨w.heap.size + 1, k, none⟩ v) cs (ds.set k v) :=
  ⟨h.b0.same (heap_setCell_other _ ⟨w.heap.size + 1, k, none⟩ _ _ (by simp)), h.b1.set k v hk, h.bl.setCell (p := ⟨w.heap.size + 1, k, none⟩) (Nat.le_succ _) _, by simpa using h.lt⟩
end Go.Proofs.Ytecleampjeebaaa
