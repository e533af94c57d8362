/-
  PACKAGE node AS IT LANDED: its reader. What lacks is panicked (take, number, text, dir).
-/
import Derived.Test.YtecleampjeebaaaNodeEncs
import Derived.Test.YtecleampjeebaaaWhole
import Derived.Laws.CopyRow
import Derived.Laws.IdiomCopy
import Derived.Laws.MakeOwn
import Derived.Deep.WholeRow
namespace Go.Proofs.Ytecleampjeebaaa
open Go.RowKit
set_option linter.unusedSimpArgs false
set_option linter.unusedVariables false

/-- A body that panics, and defers nothing. -/
theorem died {P : Program} {fn : Func} {R : Ending → World → Prop} {a : Act} {w : World} {ch : List PanicEntry} (h : R (.panicked ch) w) (ha : a.defers = [] := by rfl) : bodyPost P fn R (.panic ch) a w := ⟨ha, h⟩
/-- What is panicked: an error's number. -/
def thrown (e : Int) : List PanicEntry := [{ v := .iface 36 (.int .i64 e), recovered := false }]
/-- A reader: its one cell in a block of its own, what it has not read yet is l from p on; all of it lies below a mark. -/
structure RdS (W : World) (g B : Nat) (l : List UInt8) (p : Nat) (a : Option Addr) (n cap : Nat) : Prop where
  c : W.cell? ⟨g, 0, none⟩ = some (.slice a n cap)
  f : W.frozen? ⟨g, 0, none⟩ = false
  b : BytesAt W a n (l.drop p)
  ap : ∀ y, a = some y → 0 < n → y.block ≠ g
  ha : ∀ y, a = some y → 0 < n → y.block < B
  hg : g < B
  hB : B ≤ W.heap.size
  sm : n < 1000000
  nc : n ≤ cap
  le : p ≤ l.length
def RdN (W : World) (g B : Nat) (l : List UInt8) (p : Nat) : Prop := ∃ a n cap, RdS W g B l p a n cap
section
variable {w W W' : World} {g B p : Nat} {l : List UInt8} {a : Option Addr} {n cap : Nat}
theorem RdS.len (h : RdS W g B l p a n cap) : n = l.length - p := by
  have := h.b.1
  rw [List.length_drop] at this
  exact this.symm
theorem RdS.past (h : RdS W g B l p a n cap) (b : Below B W W') : RdS W' g B l p a n cap :=
  ⟨(World.cell?_of_block (a := ⟨g, 0, none⟩) (b.block g h.hg)).trans h.c, (World.frozen?_of_block (a := ⟨g, 0, none⟩) (b.block g h.hg)).trans h.f, h.b.same fun y hy hn => b.block _ (h.ha y hy hn), h.ap, h.ha, h.hg, Nat.le_trans h.hB b.size, h.sm, h.nc, h.le⟩
theorem RdN.past (h : RdN W g B l p) (b : Below B W W') : RdN W' g B l p := by
  obtain ⟨a, n, cap, h⟩ := h
  exact ⟨a, n, cap, h.past b⟩
theorem RdN.lt (h : RdN W g B l p) : g < B ∧ B ≤ W.heap.size := by
  obtain ⟨a, n, cap, h⟩ := h
  exact ⟨h.hg, h.hB⟩
end
/-- What a reader's method comes to: an answer, or what is panicked. -/
def Got (g B : Nat) (l : List UInt8) (w : World) (r : Rd) (K : Value → World → Prop) (e : Ending) (w' : World) : Prop :=
  Rest g w w' ∧ ((r.err = 0 ∧ ∃ v, e = .returned v ∧ K v w' ∧ RdN w' g B l r.p) ∨ (r.err ≠ 0 ∧ e = .panicked (thrown r.err)))
def takeR (l : List UInt8) (p k : Nat) : Rd := if p + k ≤ l.length then ⟨p + k, 0⟩ else ⟨p, 8⟩

theorem make_u8 (w : World) (k : Nat) (hk : k < 1000) : ∃ cur : Array Value, cur.size = k ∧ (Instr.makeSlice 34 (.int .i64 (k : Int)) (.int .i64 (k : Int))).run Try.prog w = .ok (.slice (some ⟨w.heap.size, 0, none⟩) k k) (w.alloc (.cells cur 5)) := by
  obtain ⟨i, hi, hz, hs, hb⟩ := info_u8s
  have h := run_make (P := Try.prog) w 34 5 i _ Try.underlying34 hi hz .i64 .i64 k k (by omega) (by omega) (by rw [hb]; omega) (by omega)
  refine ⟨_, ?_, h⟩
  rw [hs]
  simp [madeCells]
theorem size_u8 : (Try.prog.info? 5).map (·.size) = some 1 := by kernel_rfl
/-- copy into a row that was just made. -/
theorem copy_made (w : World) (k : Nat) (cur : Array Value) (hc : cur.size = k) (a : Option Addr) (n cap : Nat) (r : List UInt8) (hr : BytesAt w a n r) :
    ∃ cs : Array Value, cs.size = k ∧ (Builtin.copy_ #[34, 34] 3 #[.slice (some ⟨w.heap.size, 0, none⟩) k k, .slice a n cap]).run Try.prog (w.alloc (.cells cur 5)) = .ok (.int .i64 ((min n k : Nat) : Int)) (w.alloc (.cells cs 5)) ∧ (k ≤ n → cs = (valsB (r.take k)).toArray) := by
  by_cases hm : min n k = 0
  · refine ⟨cur, hc, ?_, fun hk => ?_⟩
    · rw [run_copy_none (P := Try.prog) _ 34 34 3 5 _ _ _ _ _ _ Try.underlying34 size_u8 hm, hm]
      rfl
    · obtain rfl : k = 0 := by omega
      have : cur = #[] := Array.eq_empty_of_size_eq_zero hc
      rw [this]
      rfl
  · obtain ⟨y, rfl, -⟩ := hr.2 0 (by omega)
    have hlen : (valsB (r.take k)).length = min n k := by
      rw [valsB_len, List.length_take, hr.1, Nat.min_comm]
    have hr' := hr.below (alloc_below w (.cells cur 5))
    have h := run_copy_row Try.prog (w.alloc (.cells cur 5)) 34 34 3 5 w.heap.size 0 k k y n cap cur 5 (valsB (r.take k)) Try.underlying34 size_u8 (heap_alloc_new w _) hlen (fun j u hu => by
      have hj := (List.getElem?_eq_some_iff.1 hu).1
      rw [hlen] at hj
      obtain ⟨y', hy', hcell⟩ := hr'.2 j (by omega)
      obtain rfl := Option.some.inj hy'
      rw [hcell, ← hu]
      have hjr : j < r.length := by rw [hr.1]; omega
      have hjk : j < k := by omega
      simp [valsB, List.getElem?_take, hjk, List.getElem?_eq_getElem hjr, List.getD_eq_getElem?_getD]) (by rw [hlen, hc]; omega) (by
      intro u hu
      obtain ⟨c, _, rfl⟩ := List.mem_map.1 hu
      simp [Value.oneCell'])
    rw [World.setRow_alloc_new, hlen] at h
    refine ⟨_, ?_, h, fun hk => ?_⟩
    · simp [hlen, hc]
      omega
    · have hd : cur.toList.drop (0 + min n k) = [] := List.drop_eq_nil_of_le (by simp [hc]; omega)
      rw [hd]
      simp
/-- What lies behind the first k. -/
theorem rest_slice (a : Option Addr) (n cap k : Nat) (hk : k ≤ n) (hnc : n ≤ cap) :
    ∃ A : Option Addr, (∀ W, (Instr.slice 34 (.slice a n cap) (some (.int .i64 (k : Int))) none none).run Try.prog W = .ok (.slice A (n - k) (cap - k)) W) ∧ (k < cap → A = a.map (·.add k)) ∧ (cap = k → A = a) := by
  obtain ⟨i, hi, hz, hs, hb⟩ := info_u8s
  refine ⟨if cap = k then a else a.map (·.add k), fun W => ?_, fun h => if_neg (by omega), fun h => if_pos h⟩
  rw [run_slice_l (P := Try.prog) W 34 a n cap Try.underlying34 .i64 (k : Int) (by omega) (by omega)]
  rw [show (Try.prog.elem 34) = 5 by kernel_rfl]
  simp [sizeOf, typeInfo, hi, hs, sliced]
theorem RdS.move {W : World} {g B p : Nat} {l : List UInt8} {a A : Option Addr} {n cap k : Nat} (h : RdS W g B l p a n cap) (hk : k ≤ n) (h1 : k < cap → A = a.map (·.add k)) : RdS (W.setCell ⟨g, 0, none⟩ (.slice A (n - k) (cap - k))) g B l (p + k) A (n - k) (cap - k) := by
  have hnc := h.nc
  have hA : 0 < n - k → ∃ y, a = some y ∧ A = some (y.add k) := fun hn => by
    obtain ⟨y, hy, -⟩ := h.b.2 0 (by omega)
    refine ⟨y, hy, ?_⟩
    rw [h1 (by omega), hy]
    rfl
  refine ⟨?_, ?_, ?_, fun y hy hn => ?_, fun y hy hn => ?_, h.hg, ?_, ?_, by omega, ?_⟩
  · have := h.c
    simp [World.cell?_setCell_same', this]
  · have := h.f
    simp [World.frozen?_setCell, this]
  · refine ⟨?_, fun j hj => ?_⟩
    · have := h.b.1
      rw [List.length_drop] at this ⊢
      omega
    · obtain ⟨y, hy, rfl⟩ := hA (by omega)
      refine ⟨_, rfl, ?_⟩
      rw [Addr.add_add]
      obtain ⟨y', hy', hc⟩ := h.b.2 (k + j) (by omega)
      rw [hy] at hy'
      obtain rfl := Option.some.inj hy'
      rw [World.cell?_of_block (heap_setCell_other _ ⟨g, 0, none⟩ (y.add (k + j)).block _ (by rw [add_block]; exact h.ap y hy (by omega))), hc]
      have := h.b.1
      rw [List.length_drop] at this
      simp [List.getD_eq_getElem?_getD, List.getElem?_drop, Nat.add_assoc]
  · obtain ⟨y', hy', h2⟩ := hA hn
    rw [hy] at h2
    obtain rfl := Option.some.inj h2
    rw [add_block]
    exact h.ap y' hy' (by omega)
  · obtain ⟨y', hy', h2⟩ := hA hn
    rw [hy] at h2
    obtain rfl := Option.some.inj h2
    rw [add_block]
    exact h.ha y' hy' (by omega)
  · simpa using h.hB
  · have := h.sm
    omega
  · have := h.len
    have := h.le
    omega
theorem OwnB.made (w : World) (l : List UInt8) (k : Nat) (hl : l.length = k) (hk : k < 1000) : OwnB (w.alloc (.cells (valsB l).toArray 5)) w.heap.size (.slice (some ⟨w.heap.size, 0, none⟩) k k) l := by
  refine ⟨by rw [valsB_len]; omega, .inr ⟨w.heap.size, k, (valsB l).toArray, by rw [hl], Nat.le_refl _, heap_alloc_new w _, by omega, by simp only [maxLen]; omega, by simp [valsB_len, hl], ?_⟩⟩
  simp only [Nat.mul_one]
  exact List.take_of_length_le (by rw [valsB_len]; exact Nat.le_refl _)
theorem OwnB.setFar {W : World} {base g j : Nat} {v u : Value} {l : List UInt8} (h : OwnB W base v l) (hg : g < base) : OwnB (W.setCell ⟨g, j, none⟩ u) base v l := by
  refine ⟨h.1, ?_⟩
  rcases h.2 with h1 | ⟨b, cap, cur, hv, hb, hh, rest⟩
  · exact .inl h1
  · exact .inr ⟨b, cap, cur, hv, hb, (heap_setCell_other _ ⟨g, j, none⟩ b _ (by show b ≠ g; omega)).trans hh, rest⟩
theorem rest_below {w W W' : World} {g B : Nat} (h : Rest g w W) (hB : w.heap.size ≤ B) (b : Below B W W') : Rest g w W' := h.past hB b

set_option maxHeartbeats 2000000 in
theorem take_any (g B : Nat) (l : List UInt8) (p k : Nat) (hk : k < 1000) (w : World) (h : RdN w g B l p) :
    Calls Try.prog 63 #[.pointer (some ⟨g, 0, none⟩), .int .i64 (k : Int)] w (Got g B l w (takeR l p k) fun v w' => OwnB w' w.heap.size v ((l.drop p).take k)) := by
  obtain ⟨a, n, cap, h⟩ := h
  have hn := h.len
  have hle := h.le
  have hsm := h.sm
  have hnc := h.nc
  obtain ⟨cur, hcur, hmk⟩ := make_u8 w k hk
  obtain ⟨cs, hcs, hcp, hfull⟩ := copy_made w k cur hcur a n cap _ h.b
  have bl := alloc_below w (.cells cs 5)
  have hlt : ∀ X, (w.alloc (.cells X 5)).cell? ⟨g, 0, none⟩ = some (.slice a n cap) := fun X => ((h.past ((alloc_below w (.cells X 5)).mono h.hB)).c)
  have h2 := h.past (bl.mono h.hB)
  have hT : Rest g w (w.alloc (.cells cs 5)) := (Rest.refl g w).past (Nat.le_refl _) bl
  have hgw : g < w.heap.size := Nat.lt_of_lt_of_le h.hg h.hB
  by_cases hkn : k ≤ n
  · have e1 : takeR l p k = ⟨p + k, 0⟩ := if_pos (by omega)
    rw [e1]
    obtain ⟨A, hsl, hA, -⟩ := rest_slice a n cap k hkn hnc
    have hmin : min n k = k := by omega
    rw [hmin] at hcp
    have hcs2 := hfull hkn
    have ho : OwnB (w.alloc (.cells cs 5)) w.heap.size (.slice (some ⟨w.heap.size, 0, none⟩) k k) ((l.drop p).take k) := by
      rw [hcs2]
      exact OwnB.made w _ k (by simp; omega) hk
    have h3 := h2.move hkn hA
    have ho3 := ho.setFar (g := g) (j := 0) (u := .slice A (n - k) (cap - k)) hgw
    have hT3 := hT.trans (Rest.set g 0 _ (.slice A (n - k) (cap - k)))
    have c2 := h2.c
    have f2 := h2.f
    have c1 := hlt cur
    clear hfull hcs2 hA ho hT h hlt bl hcs hn hcur hmin e1 h2
    generalize w.alloc (.cells cs 5) = W1 at *
    go_enter Try.func63, Try.ntmps63
    go_wp2_with fail
    go_ret
    exact ⟨hT3, .inl ⟨rfl, _, rfl, ho3, _, _, _, h3⟩⟩
  · have e1 : takeR l p k = ⟨p, 8⟩ := if_neg (by omega)
    rw [e1]
    have hmin : min n k = n := by omega
    rw [hmin] at hcp
    have c1 := hlt cur
    have i1 : (n : Int) < (k : Int) := by omega
    clear hfull h hlt bl hcs h2 hn hcur hmin e1
    go_enter Try.func63, Try.ntmps63
    go_wp2_with fail
    refine died ?_
    exact ⟨hT, .inr ⟨by show (8 : Int) ≠ 0; decide, rfl⟩⟩
/-! number, text, dir. -/
theorem u8R_take (l : List UInt8) (p : Nat) : u8R l ⟨p, 0⟩ = takeR l p 1 := by
  unfold u8R takeR
  simp only [if_true]
  by_cases h : p < l.length
  · rw [if_pos h, if_pos (by omega)]
  · rw [if_neg h, if_neg (by omega)]
theorem takeR_zero {l : List UInt8} {p k : Nat} (h : (takeR l p k).err = 0) : p + k ≤ l.length ∧ takeR l p k = ⟨p + k, 0⟩ := by
  unfold takeR at h ⊢
  split at h
  · rename_i hh
    exact ⟨hh, if_pos hh⟩
  · cases h
theorem u8V_take (l : List UInt8) (p : Nat) (h : p + 1 ≤ l.length) : (l.drop p).take 1 = [UInt8.ofNat (u8V l ⟨p, 0⟩)] ∧ ∀ d, ((l.drop p).take 1).getD 0 d = UInt8.ofNat (u8V l ⟨p, 0⟩) := by
  have e : u8V l ⟨p, 0⟩ = (l.getD p 0).toNat := if_pos ⟨rfl, by show p < l.length; omega⟩
  have hp : p < l.length := by omega
  have h1 : (l.drop p).take 1 = [l[p]] := by
    rw [List.drop_eq_getElem_cons hp]
    rfl
  have h2 : UInt8.ofNat (u8V l ⟨p, 0⟩) = l[p] := by
    rw [e, List.getD_eq_getElem?_getD, List.getElem?_eq_getElem hp]
    simp
  rw [h1, h2]
  exact ⟨rfl, fun d => rfl⟩
set_option maxHeartbeats 1000000 in
theorem number_any (g B : Nat) (l : List UInt8) (r : Rd) (h0 : r.err = 0) (w : World) (h : RdN w g B l r.p) :
    Calls Try.prog 62 #[.pointer (some ⟨g, 0, none⟩)] w (Got g B l w (u8R l r) fun v _ => v = .int .i64 (u8V l r : Nat)) := by
  obtain ⟨p, er⟩ := r
  obtain rfl : er = 0 := h0
  have hu := u8V_lt l ⟨p, 0⟩
  have hv := u8V_take l p
  have k := take_any g B l p 1 (by omega) w h
  rw [u8R_take]
  generalize u8V l ⟨p, 0⟩ = x at *
  go_enter Try.func62, Try.ntmps62
  go_wp2_with fail
  refine k.mono ?_
  rintro e W ⟨hT, ⟨he, v, rfl, ho, hR⟩ | ⟨he, rfl⟩⟩
  · obtain ⟨hp, -⟩ := takeR_zero he
    obtain ⟨a, cap, rfl, hb⟩ := ho.slice
    have hx := (hv hp).2 0
    have hlen : ((l.drop p).take 1).length = 1 := by simp; omega
    rw [hlen] at hb ⊢
    obtain ⟨y, rfl, hc⟩ := hb.2 0 (by omega)
    rw [hx] at hc
    have hc' : W.cell? y = some (.int .u8 (x : Int)) := by
      rw [show y.add 0 = y from rfl] at hc
      rw [hc]
      simp [UInt8.toNat_ofNat']
      omega
    have hw8 : IntKind.i64.wrap (x : Int) = (x : Int) := by rw [IntKind.wrap_i64]; omega
    clear hc hv hx hb ho k
    go_wp2_with fail
    go_ret
    exact ⟨hT, .inl ⟨he, _, rfl, rfl, hR⟩⟩
  · refine died ?_
    exact ⟨hT, .inr ⟨he, rfl⟩⟩
theorem textR_take {l : List UInt8} {p : Nat} (h : (u8R l ⟨p, 0⟩).err = 0) : textR l ⟨p, 0⟩ = takeR l (u8R l ⟨p, 0⟩).p (u8V l ⟨p, 0⟩) := by
  unfold textR takeR
  rw [if_pos h]
theorem textV_take {l : List UInt8} {p : Nat} (h : (u8R l ⟨p, 0⟩).err = 0) (h2 : (takeR l (u8R l ⟨p, 0⟩).p (u8V l ⟨p, 0⟩)).err = 0) : textV l ⟨p, 0⟩ = ⟨((l.drop (u8R l ⟨p, 0⟩).p).take (u8V l ⟨p, 0⟩)).toArray⟩ := by
  unfold textV
  rw [if_pos ⟨h, (takeR_zero h2).1⟩]
theorem own_text' {W : World} {base : Nat} {v : Value} {l : List UInt8} (h : OwnB W base v l) : (convert 34 9 v).run Try.prog W = .ok (.string ⟨l.toArray⟩) W := by
  have hrow : W.ownsRow base 5 1 v l.length (valsB l) := h
  rcases h.2 with ⟨rfl, h2⟩ | ⟨g, cap, cur, rfl, _⟩
  · obtain rfl : l = [] := List.eq_nil_of_length_eq_zero h2
    rw [run_convert_bytes_string W 34 9 5 none 0 0 Try.underlying34 Try.underlying5 Try.underlying9]
    rfl
  · refine run_convert_bytes_back (P := Try.prog) W 34 9 5 ⟨g, 0, none⟩ cap l Try.underlying34 Try.underlying5 Try.underlying9 fun j hj => ?_
    rw [add_at g j, hrow.cellAt j (by omega)]
    simp [valsB, List.getElem?_eq_getElem hj]
set_option maxHeartbeats 1000000 in
theorem text_any (g B : Nat) (l : List UInt8) (r : Rd) (h0 : r.err = 0) (w : World) (h : RdN w g B l r.p) :
    Calls Try.prog 53 #[.pointer (some ⟨g, 0, none⟩)] w (Got g B l w (textR l r) fun v _ => v = .string (textV l r)) := by
  obtain ⟨p, er⟩ := r
  obtain rfl : er = 0 := h0
  have hu := u8V_lt l ⟨p, 0⟩
  have k := number_any g B l ⟨p, 0⟩ rfl w h
  have q1 := textR_take (l := l) (p := p)
  have q2 := textV_take (l := l) (p := p)
  have q3 : (u8R l ⟨p, 0⟩).err ≠ 0 → textR l ⟨p, 0⟩ = u8R l ⟨p, 0⟩ := fun hh => by unfold textR; rw [if_neg hh]
  have k2 := take_any g B l (u8R l ⟨p, 0⟩).p (u8V l ⟨p, 0⟩) (by omega)
  generalize u8V l ⟨p, 0⟩ = x at *
  generalize u8R l ⟨p, 0⟩ = r1 at *
  generalize textV l ⟨p, 0⟩ = tv at *
  generalize textR l ⟨p, 0⟩ = tr at *
  go_enter Try.func53, Try.ntmps53
  go_wp2_with fail
  refine k.mono ?_
  rintro e W ⟨hT, ⟨he, v, rfl, rfl, hR⟩ | ⟨he, rfl⟩⟩
  · replace q1 := q1 he
    replace q2 := q2 he
    subst q1
    clear q3 k
    go_wp2_with fail
    refine (k2 W hR).mono ?_
    rintro e W2 ⟨hT2, ⟨he2, v, rfl, ho, hR2⟩ | ⟨he2, rfl⟩⟩
    · have hcv := own_text' ho
      rw [← q2 he2] at hcv
      have hT3 := hT.trans hT2
      clear q2 k2
      go_wp2_with fail
      go_ret
      exact ⟨hT3, .inl ⟨he2, _, rfl, rfl, hR2⟩⟩
    · refine died ?_
      exact ⟨hT.trans hT2, .inr ⟨he2, rfl⟩⟩
  · obtain rfl := q3 he
    refine died ?_
    exact ⟨hT, .inr ⟨he, rfl⟩⟩
set_option maxHeartbeats 1000000 in
theorem dir_any (g B : Nat) (l : List UInt8) (r : Rd) (h0 : r.err = 0) (w : World) (h : RdN w g B l r.p) :
    Calls Try.prog 54 #[.pointer (some ⟨g, 0, none⟩)] w (Got g B l w (dirR l r) fun v _ => v = .bool (u8V l r == 1)) := by
  have hu := u8V_lt l r
  have k := number_any g B l r h0 w h
  have q1 : (u8R l r).err = 0 → ¬ 1 < u8V l r → dirR l r = u8R l r := fun a b => if_neg fun c => b c.2
  have q2 : (u8R l r).err ≠ 0 → dirR l r = u8R l r := fun a => if_neg fun c => a c.1
  have q3 : (u8R l r).err = 0 → 1 < u8V l r → dirR l r = ⟨(u8R l r).p, 11⟩ := fun a b => if_pos ⟨a, b⟩
  generalize u8V l r = x at *
  generalize u8R l r = r1 at *
  generalize dirR l r = dr at *
  go_enter Try.func54, Try.ntmps54
  go_wp2_with fail
  refine k.mono ?_
  rintro e W ⟨hT, ⟨he, v, rfl, rfl, hR⟩ | ⟨he, rfl⟩⟩
  · by_cases hx : 1 < x
    · obtain rfl := q3 he hx
      have i1 : (1 : Int) < (x : Int) := by omega
      clear q1 q2 q3 k
      go_wp2_with fail
      refine died ?_
      exact ⟨hT, .inr ⟨by show (11 : Int) ≠ 0; decide, rfl⟩⟩
    · obtain rfl := q1 he hx
      have i1 : ¬ (1 : Int) < (x : Int) := by omega
      have d : ((x : Int) == 1) = (x == 1) := by
        by_cases h1 : x = 1
        · subst h1; rfl
        · rw [beq_eq_false_iff_ne.2 h1, beq_eq_false_iff_ne.2 (by omega)]
      clear q1 q2 q3 k
      go_wp2_with fail
      go_ret
      exact ⟨hT, .inl ⟨he, _, rfl, by first | rfl | (rw [← d]; rfl) | simp [d], hR⟩⟩
  · obtain rfl := q2 he
    refine died ?_
    exact ⟨hT, .inr ⟨he, rfl⟩⟩
end Go.Proofs.Ytecleampjeebaaa
