/-
  THE DOCUMENT'S OWN Parse OF INSTRUCTIONS (donjonref15). Written by mk_isarefparse.py.
-/
import Derived.Test.YtolccbdogfmcaaaDoorIsaNum
import Derived.Test.YtolccbdogfmcaaaDoorIsaText2
import Derived.Test.YtolccbdogfmcaaaDoorIsaCut
import Derived.Deep.CutBlock
namespace Go.Proofs.YtolccbdogfmcaaaDoor
open Go.RowKit
set_option maxRecDepth 8000
set_option linter.unusedSimpArgs false
set_option linter.unusedVariables false

/-- Where the blanks of a text stand. -/
def posn (o : Nat) : List UInt8 → List Nat
  | [] => []
  | c :: r => if c = 32 then o :: posn (o + 1) r else posn (o + 1) r
theorem posn_app : ∀ (o : Nat) (x y : List UInt8), posn o (x ++ y) = posn o x ++ posn (o + x.length) y
  | o, [], y => by simp [posn]
  | o, c :: r, y => by
    have ih := posn_app (o + 1) r y
    rw [List.cons_append, posn, posn, ih, List.length_cons, show o + (r.length + 1) = o + 1 + r.length by omega]
    split <;> simp
theorem posn_none : ∀ (o : Nat) (x : List UInt8), (32 : UInt8) ∉ x → posn o x = []
  | o, [], _ => rfl
  | o, c :: r, h => by
    have hc : ¬ c = 32 := fun e => h (by rw [e]; exact List.mem_cons_self)
    rw [posn, if_neg hc, posn_none (o + 1) r (fun q => h (List.mem_cons_of_mem _ q))]
theorem posn_mem : ∀ (o : Nat) (x : List UInt8) (j : Nat), j ∈ posn o x → o ≤ j ∧ j < o + x.length
  | o, [], j, h => by simp [posn] at h
  | o, c :: r, j, h => by
    rw [posn] at h
    have ih := posn_mem (o + 1) r j
    rw [List.length_cons]
    split at h
    · rcases List.mem_cons.1 h with rfl | h
      · omega
      · have := ih h; omega
    · have := ih h; omega
theorem posn_lt : ∀ (o : Nat) (x : List UInt8), (posn o x).Pairwise (· < ·)
  | o, [] => by simp [posn]
  | o, c :: r => by
    rw [posn]
    split
    · exact List.pairwise_cons.2 ⟨fun j hj => by have := (posn_mem (o + 1) r j hj).1; omega, posn_lt (o + 1) r⟩
    · exact posn_lt (o + 1) r
theorem posn_step {l : List UInt8} {k : Nat} (hk : k < l.length) : posn 0 (l.take (k + 1)) = posn 0 (l.take k) ++ (if l.getD k 0 = 32 then [k] else []) := by
  rw [List.take_add_one, List.getElem?_eq_getElem hk, List.getD_eq_getElem?_getD, List.getElem?_eq_getElem hk]
  show posn 0 (l.take k ++ [l[k]]) = _
  rw [posn_app, Nat.zero_add, List.length_take, Nat.min_eq_left (Nat.le_of_lt hk)]
  rfl
theorem posn_len (l : List UInt8) : ∀ o, (posn o l).length ≤ l.length := by
  induction l with
  | nil => intro o; simp [posn]
  | cons c r ih =>
    intro o
    rw [posn]
    have := ih (o + 1)
    split <;> simp <;> omega
theorem posn_text {s : ByteArray} {i : Ins} (h : IsT s i) : posn 0 s.data.toList = [(opL i.o).length, (opL i.o).length + 1 + (Lib.itoa i.p).length] ∧ s.data.toList = opL i.o ++ 32 :: (Lib.itoa i.p ++ 32 :: Lib.itoa i.n) := by
  obtain ⟨⟨a0, a1⟩, a2, a3, a4, a5⟩ := insE_zero.1 h.1
  have e : s.data.toList = insT i := by
    rw [← h.2]
    show (insT i).toArray.toList = _
    simp
  rw [e]
  refine ⟨?_, rfl⟩
  unfold insT
  rw [posn_app, posn_none _ _ (op_no32 a0 a1), posn, if_pos rfl, posn_app, posn_none _ _ (itoa_no32 _), posn, if_pos rfl, posn_none _ _ (itoa_no32 _)]
  simp
/-- The parts of a text between two places. -/
theorem cut_text {s : ByteArray} {i : Ins} (h : IsT s i) {a b : Nat} (hp : posn 0 s.data.toList = [a, b]) : s.extract (a + 1) b = itoaB i.p ∧ s.extract (b + 1) s.size = itoaB i.n := by
  obtain ⟨h1, h2⟩ := posn_text h
  rw [hp] at h1
  simp only [List.cons.injEq, and_true] at h1
  obtain ⟨rfl, rfl⟩ := h1
  have hsz : s.size = s.data.toList.length := Array.length_toList.symm
  constructor
  · apply ByteArray.ext
    apply Array.ext'
    rw [ByteArray.data_extract, Array.toList_extract, List.extract_eq_take_drop, itoaB_data, h2]
    rw [show opL i.o ++ 32 :: (Lib.itoa i.p ++ 32 :: Lib.itoa i.n) = (opL i.o ++ [32]) ++ (Lib.itoa i.p ++ 32 :: Lib.itoa i.n) by simp]
    rw [List.drop_append_of_le_length (by simp), List.drop_of_length_le (by simp), List.nil_append]
    rw [show (opL i.o).length + 1 + (Lib.itoa i.p).length - ((opL i.o).length + 1) = (Lib.itoa i.p).length by omega]
    exact List.take_left
  · apply ByteArray.ext
    apply Array.ext'
    rw [ByteArray.data_extract, Array.toList_extract, List.extract_eq_take_drop, itoaB_data, List.take_of_length_le (by rw [List.length_drop, hsz]; exact Nat.le_refl _), h2]
    rw [show opL i.o ++ 32 :: (Lib.itoa i.p ++ 32 :: Lib.itoa i.n) = (opL i.o ++ 32 :: (Lib.itoa i.p ++ [32])) ++ Lib.itoa i.n by simp]
    rw [List.drop_append_of_le_length (by simp; omega), List.drop_of_length_le (by simp; omega), List.nil_append]
theorem itoa_short {n : Int} (h0 : -10000000000 < n) (h1 : n < 10000000000) : (Lib.itoa n).length ≤ 11 := by
  rw [itoa_def]
  split
  · have := dig_len 9 n.natAbs (Nat.lt_of_lt_of_le (show n.natAbs < 10000000000 by omega) (by decide))
    simp
    omega
  · have := dig_len 9 n.toNat (Nat.lt_of_lt_of_le (show n.toNat < 10000000000 by omega) (by decide))
    omega
theorem text_30 {s : ByteArray} {i : Ins} (h : IsT s i) : s.size ≤ 30 := by
  obtain ⟨⟨a0, a1⟩, a2, a3, a4, a5⟩ := insE_zero.1 h.1
  have h2 := (posn_text h).2
  have e := congrArg List.length h2
  have q1 := op_len a0 a1
  have q2 := itoa_short (n := i.p) (by omega) (by omega)
  have q3 := itoa_short (n := i.n) (by omega) (by omega)
  have e1 : s.data.toList.length = s.size := Array.length_toList
  simp at e
  have e2 : s.data.size = s.size := rfl
  omega
def icl (n : Nat) : List Value := [.int .i64 (n : Int)]
theorem int_ok : ElemOk 3 49 1 icl :=
  ⟨Tryd.underlying49, by
    obtain ⟨i, h1, h2, h3, h4⟩ := info_of (e := 3) (z := .int .i64 0) (sz := 1) (b := 8) (by kernel_rfl)
    exact ⟨i, _, _, h1, h2, h3, h4, rfl, by omega⟩, by omega, fun _ => rfl, fun x u hu => by simp [icl] at hu; subst hu; rfl⟩
theorem mid_run {s x : ByteArray} {a b : Nat} (h1 : a + 1 ≤ b) (h2 : b ≤ s.size) (hx : s.extract (a + 1) b = x) (w : World) : (Instr.slice 9 (.string s) (some (.int .i64 ((a : Int) + 1))) (some (.int .i64 (b : Int))) none).run Tryd.prog w = .ok (.string x) w := by
  have hu := Tryd.underlying9
  have q1 : (0 : Int) ≤ (b : Int) ∧ (b : Int) ≤ (s.size : Int) := by omega
  have q2 : (0 : Int) ≤ (a : Int) + 1 ∧ (a : Int) + 1 ≤ (b : Int) := by omega
  have e : ((a : Int) + 1).toNat = a + 1 := by omega
  simp [Instr.slice, Instr.sliceBounds, Instr.sliceBound, asIntOf, run_underlying hu, q1, q2, e, hx]
  try omega
theorem from_run {s x : ByteArray} {b : Nat} (h2 : b + 1 ≤ s.size) (hx : s.extract (b + 1) s.size = x) (w : World) : (Instr.slice 9 (.string s) (some (.int .i64 ((b : Int) + 1))) none none).run Tryd.prog w = .ok (.string x) w := by
  have hu := Tryd.underlying9
  have q2 : (0 : Int) ≤ (b : Int) + 1 ∧ (b : Int) + 1 ≤ (s.size : Int) := by omega
  have e : ((b : Int) + 1).toNat = b + 1 := by omega
  simp [Instr.slice, Instr.sliceBounds, Instr.sliceBound, asIntOf, run_underlying hu, q2, e, hx]
  try omega
set_option maxRecDepth 8000 in
set_option maxHeartbeats 8000000 in
theorem riParse_any (s : ByteArray) (hs : s.size ≤ 1000) (w : World) : Calls Tryd.prog 10 #[.string s] w fun e w' => ∃ j f, e = .returned (.tuple #[j.v, .int .i64 f]) ∧ ParR s j f ∧ Below w.heap.size w w' := by
  have hund := Tryd.underlying23
  have hsz : (Tryd.prog.info? 23).map (·.size) = some 3 := by kernel_rfl
  have hb0 := blkl_alloc w (ins3 ⟨0, 0, 0⟩).toArray 23
  have hB0 := alloc_below w (.cells (ins3 ⟨0, 0, 0⟩).toArray 23)
  replace hb0 : BlkL w.heap.size (ins3 ⟨0, 0, 0⟩) (w.alloc (.cells (ins3 ⟨0, 0, 0⟩).toArray 23)) := hb0
  go_enter Tryd.func10, Tryd.ntmps10
  go_upto_region 1 with fail
  generalize w.alloc (.cells #[.int .i64 0, .int .i64 0, .int .i64 0] 23) = W0 at *
  by_cases h30 : 30 < s.size
  · have hno : ∀ k, ¬ IsT s k := fun k hk => by have := text_30 hk; omega
    have j0 : 30 < (s.size : Int) := by omega
    have hb6 := hb0
    have hB6 := hB0
    clear h30 hb0
    obtain ⟨W7, hW7, hth7, hb7, hk7⟩ := put_box hb6 ⟨0, 0, 0⟩
    have hB7 := hk7 _ _ (Nat.le_refl _) hB6
    have hr7 := hb7.range
    clear hk7 hb6
    go_wp2_with (first | (refine wpList_store_row rfl _ _ rfl w.heap.size rfl (ins3 ⟨0, 0, 0⟩) rfl hth7 hsz (ins3_one _) hW7 ?_) | fail)
    refine bodyPost_ret (v := .tuple #[.agg (ins3 ⟨0, 0, 0⟩).toArray, .int .i64 6]) (results_row2 rfl _ _ w.heap.size rfl (.int .i64 6) rfl (ins3 ⟨0, 0, 0⟩) hr7 hund rfl hsz) rfl ?_
    exact ⟨⟨0, 0, 0⟩, 6, rfl, .inr ⟨rfl, rfl, hno⟩, hB7⟩
  have j0 : ¬ 30 < (s.size : Int) := by omega
  have hz0 : w.heap.size + 1 ≤ W0.heap.size := hb0.2
  have hsl : s.data.toList.length = s.size := Array.length_toList
  have hfl := fun i => posn_len (s.data.toList.take i) 0
  go_wp2_with fail
  go_loopw [4, 5] (fun t4 t5 wr => ∃ (k : Nat) (v : Value), k ≤ s.size ∧ t5 = .int .i64 (k : Int) ∧ v = t4 ∧ OwnR 3 1 icl wr W0.heap.size v (posn 0 (s.data.toList.take k)) ∧ Below W0.heap.size W0 wr) (fun _ t5 _ => s.size - (Go.RowKit.intOf t5).toNat)
  case atStart => exact ⟨0, _, by omega, rfl, rfl, OwnR.nil _ _ _ _ _, Below.refl _ _⟩
  case round =>
  obtain ⟨k, v, hk, rfl, rfl, ho, hB⟩ := hrel
  by_cases hk2 : k < s.size
  · have i1 : (k : Int) < (s.size : Int) := by omega
    obtain ⟨b8, hb8, hidx⟩ := getI s k hk2
    have hstep := posn_step (l := s.data.toList) (k := k) (by omega)
    rw [hb8] at hstep
    by_cases c : b8 = 32
    · rw [if_pos c] at hstep
      have hq : ((s[k]'hk2).toNat : Int) = 32 := by rw [hidx, c]; rfl
      obtain ⟨v2, W2, hap, ho2, hg2⟩ := OwnR.push int_ok ho hB.size k (icl k).toArray rfl 3 (by have := hfl k; rw [List.length_take] at this; omega)
      have hb2 := ho.grew_below hB.size hg2
      have hB2 := hB.trans hb2
      rw [← hstep] at ho2
      replace hstep : Aside _ := hstep
      replace hap : (Builtin.append_ #[49, 49] 49 #[v, .slice (some ⟨wr.heap.size, 0, none⟩) 1 1]).run Tryd.prog (wr.alloc (.cells #[.int .i64 (k : Int)] 3)) = .ok v2 W2 := hap
      clear ho hg2 hb2 hB c hidx hb8
      go_wp2_with (first | (refine wpList_append rfl _ _ rfl rfl rfl rfl hap ?_) | fail)
      exact ⟨⟨k + 1, v2, by omega, by simp, rfl, ho2, hB2⟩, by simp [Go.RowKit.intOf]; omega⟩
    · rw [if_neg c, List.append_nil] at hstep
      have hq : (((s[k]'hk2).toNat : Int) == 32) = false := by
        rw [hidx, beq_eq_false_iff_ne]
        intro q
        apply c
        apply UInt8.toNat_inj.1
        have : (32 : UInt8).toNat = 32 := rfl
        omega
      rw [← hstep] at ho
      replace hstep : Aside _ := hstep
      clear c hidx hb8
      go_wp2_with fail
      exact ⟨⟨k + 1, v, by omega, by simp, rfl, ho, hB⟩, by simp [Go.RowKit.intOf]; omega⟩
  have hk3 : k = s.size := by omega
  have i1 : ¬ (k : Int) < (s.size : Int) := by omega
  rw [hk3, List.take_of_length_le (by omega)] at ho
  have hb1 := stab_blk _ _ _ _ hb0 hB
  have hB1 := Below.then hB0 hB
  obtain ⟨P, hP⟩ : ∃ P, posn 0 s.data.toList = P := ⟨_, rfl⟩
  rw [hP] at ho
  obtain ⟨ra, rc, hvr, hrc, hrn, hrow⟩ := ho.slice int_ok.len
  subst hvr
  clear hb0 hB0 hk3 hk2 hfl hB ho hrn hz0
  replace hsl : Aside (s.data.toList.length = s.size) := hsl
  by_cases h2 : P.length = 2
  rotate_left
  · have hno : ∀ k, ¬ IsT s k := fun k hk => by
      have := (posn_text hk).1
      rw [hP] at this
      rw [this] at h2
      exact h2 rfl
    have hq : (((P.length : Nat) : Int) != 2) = true := by
      have : ((P.length : Nat) : Int) ≠ 2 := by omega
      simpa using this
    have hb6 := hb1
    have hB6 := hB1
    clear h2 hb1 hB1 hrow hrc
    obtain ⟨W7, hW7, hth7, hb7, hk7⟩ := put_box hb6 ⟨0, 0, 0⟩
    have hB7 := hk7 _ _ (Nat.le_refl _) hB6
    have hr7 := hb7.range
    clear hk7 hb6
    go_wp2_with (first | (refine wpList_store_row rfl _ _ rfl w.heap.size rfl (ins3 ⟨0, 0, 0⟩) rfl hth7 hsz (ins3_one _) hW7 ?_) | fail)
    refine bodyPost_ret (v := .tuple #[.agg (ins3 ⟨0, 0, 0⟩).toArray, .int .i64 6]) (results_row2 rfl _ _ w.heap.size rfl (.int .i64 6) rfl (ins3 ⟨0, 0, 0⟩) hr7 hund rfl hsz) rfl ?_
    exact ⟨⟨0, 0, 0⟩, 6, rfl, .inr ⟨rfl, rfl, hno⟩, hB7⟩
  obtain ⟨a, b, rfl⟩ : ∃ a b, P = [a, b] := by
    match P, h2 with
    | [a, b], _ => exact ⟨a, b, rfl⟩
  obtain ⟨y, rfl, hy0⟩ := hrow 0 a rfl
  obtain ⟨y', hyy, hy1⟩ := hrow 1 b rfl
  obtain rfl := Option.some.inj hyy
  have d0 := hy0 0 (by decide)
  have d1 := hy1 0 (by decide)
  replace d0 : wr.cell? (y.add 0) = some (.int .i64 (a : Int)) := d0
  replace d1 : wr.cell? (y.add 1) = some (.int .i64 (b : Int)) := d1
  have hab : a < b ∧ b < s.size := by
    have h1 := posn_lt 0 s.data.toList
    rw [hP] at h1
    have h3 := posn_mem 0 s.data.toList b (by rw [hP]; simp)
    rw [hsl.out] at h3
    simp at h1
    omega
  have hc0 := fun (W : World) (q : Below wr.heap.size wr W) => (q.cell (World.block_lt_of_cell? _ _ d0)).trans d0
  have hc1 := fun (W : World) (q : Below wr.heap.size wr W) => (q.cell (World.block_lt_of_cell? _ _ d1)).trans d1
  obtain ⟨x1, hx1⟩ : ∃ x1, s.extract (a + 1) b = x1 := ⟨_, rfl⟩
  obtain ⟨x2, hx2⟩ : ∃ x2, s.extract (b + 1) s.size = x2 := ⟨_, rfl⟩
  have hcut := fun (k : Ins) (hk : IsT s k) => cut_text hk hP
  rw [hx1, hx2] at hcut
  have zx1 : x1.size ≤ 1000 := by rw [← hx1, ByteArray.size_extract]; omega
  have zx2 : x2.size ≤ 1000 := by rw [← hx2, ByteArray.size_extract]; omega
  have kx1 := rinum_any x1 zx1
  have kx2 := rinum_any x2 zx2
  clear hrow hy0 hy1 hyy h2 hrc hP zx1 zx2 d0 d1
  go_upto_region 11 with fail
  simp only [List.length_cons, List.length_nil, Nat.zero_add, Nat.reduceAdd]
  obtain ⟨Z, hZ⟩ : ∃ Z, wr = Z := ⟨_, rfl⟩
  rw [hZ] at hb1 hB1 hc0 hc1 ⊢
  clear hZ
  have hS0 : Below Z.heap.size Z Z.drew := (Below.refl _ _).drew
  have wa : IntKind.i64.wrap ((a : Int) + 1) = ((a + 1 : Nat) : Int) := by rw [IntKind.wrap_i64]; omega
  have wb : IntKind.i64.wrap ((b : Int) + 1) = ((b + 1 : Nat) : Int) := by rw [IntKind.wrap_i64]; omega
  have m1 : (a : Int) + 1 ≤ (b : Int) := by omega
  have m2 : (b : Int) ≤ (s.size : Int) := by omega
  have m3 : (b : Int) + 1 ≤ (s.size : Int) := by omega
  have m4 : a + 1 ≤ b := by omega
  have m5 : b ≤ s.size := by omega
  have m6 : b + 1 ≤ s.size := by omega
  have hmid := mid_run m4 m5 hx1
  refine wp_region_held_drew (S := (fun W => Below Z.heap.size Z W)) (by kernel_rfl) (by exact hS0) ?_
  intro hHeld
  generalize Z.drew = w0 at *
  refine wpAnyH_take (i := 0) (v := ?_) (by simp only [List.getElem?_toArray, List.getElem?_cons_zero, List.getElem?_cons_succ]; rfl) (by kernel_rfl) (by kernel_rfl) (by kernel_rfl) (by exact fun _ _ _ h => h) (Or.inl ⟨by rfl, ?_⟩) (by assumption) ?_; rotate_left; (focus (intro w hSw; (try dsimp only at hSw); go_simp; try with_reducible rfl)); (try simp only [Act.put, List.setIfInBounds_toArray, List.set_cons_zero, List.set_cons_succ])
  refine wpAnyH_take (i := 1) (v := ?_) (by simp only [List.getElem?_toArray, List.getElem?_cons_zero, List.getElem?_cons_succ]; rfl) (by kernel_rfl) (by kernel_rfl) (by kernel_rfl) (by exact fun _ _ _ h => h) (Or.inl ⟨by rfl, ?_⟩) (by assumption) ?_; rotate_left; (focus (intro w hSw; (try dsimp only at hSw); go_simp; try with_reducible rfl)); (try simp only [Act.put, List.setIfInBounds_toArray, List.set_cons_zero, List.set_cons_succ])
  refine wpAnyH_take (i := 2) (v := ?_) (by simp only [List.getElem?_toArray, List.getElem?_cons_zero, List.getElem?_cons_succ]; rfl) (by kernel_rfl) (by kernel_rfl) (by kernel_rfl) (by exact fun _ _ _ h => h) (Or.inl ⟨by rfl, ?_⟩) (by assumption) ?_; rotate_left; (focus (intro w hSw; (try dsimp only at hSw); go_simp; try with_reducible rfl)); (try simp only [Act.put, List.setIfInBounds_toArray, List.set_cons_zero, List.set_cons_succ])
  refine wpAnyH_take (i := 3) (v := _) (by simp only [List.getElem?_toArray, List.getElem?_cons_zero, List.getElem?_cons_succ]; rfl) (by kernel_rfl) (by kernel_rfl) (by kernel_rfl) (by exact fun _ _ _ h => h) (yields_cellI (by rfl) _ rfl _ rfl (.int .i64 (a : Int)) (fun _ q => hc0 _ q) intI_load) (by assumption) ?_; (try simp only [Act.put, List.setIfInBounds_toArray, List.set_cons_zero, List.set_cons_succ])
  refine wpAnyH_take (i := 4) (v := ?_) (by simp only [List.getElem?_toArray, List.getElem?_cons_zero, List.getElem?_cons_succ]; rfl) (by kernel_rfl) (by kernel_rfl) (by kernel_rfl) (by exact fun _ _ _ h => h) (Or.inl ⟨by rfl, ?_⟩) (by assumption) ?_; rotate_left; (focus (intro w hSw; (try dsimp only at hSw); go_simp; try with_reducible rfl)); (try simp only [Act.put, List.setIfInBounds_toArray, List.set_cons_zero, List.set_cons_succ])
  refine wpAnyH_take (i := 5) (v := ?_) (by simp only [List.getElem?_toArray, List.getElem?_cons_zero, List.getElem?_cons_succ]; rfl) (by kernel_rfl) (by kernel_rfl) (by kernel_rfl) (by exact fun _ _ _ h => h) (Or.inl ⟨by rfl, ?_⟩) (by assumption) ?_; rotate_left; (focus (intro w hSw; (try dsimp only at hSw); go_simp; try with_reducible rfl)); (try simp only [Act.put, List.setIfInBounds_toArray, List.set_cons_zero, List.set_cons_succ])
  refine wpAnyH_take (i := 6) (v := ?_) (by simp only [List.getElem?_toArray, List.getElem?_cons_zero, List.getElem?_cons_succ]; rfl) (by kernel_rfl) (by kernel_rfl) (by kernel_rfl) (by exact fun _ _ _ h => h) (Or.inl ⟨by rfl, ?_⟩) (by assumption) ?_; rotate_left; (focus (intro w hSw; (try dsimp only at hSw); go_simp; try with_reducible rfl)); (try simp only [Act.put, List.setIfInBounds_toArray, List.set_cons_zero, List.set_cons_succ])
  refine wpAnyH_take (i := 7) (v := _) (by simp only [List.getElem?_toArray, List.getElem?_cons_zero, List.getElem?_cons_succ]; rfl) (by kernel_rfl) (by kernel_rfl) (by kernel_rfl) (by exact fun _ _ _ h => h) (yields_cellI (by rfl) _ rfl _ rfl (.int .i64 (b : Int)) (fun _ q => hc1 _ q) intI_load) (by assumption) ?_; (try simp only [Act.put, List.setIfInBounds_toArray, List.set_cons_zero, List.set_cons_succ])
  refine wpAnyH_take (i := 8) (v := _) (by simp only [List.getElem?_toArray, List.getElem?_cons_zero, List.getElem?_cons_succ]; rfl) (by kernel_rfl) (by kernel_rfl) (by kernel_rfl) (by exact fun _ _ _ h => h) ((show YieldsIf Tryd.prog _ _ _ (.string x1) _ from Or.inl ⟨by rfl, fun w _ => by go_simp⟩)) (by assumption) ?_; (try simp only [Act.put, List.setIfInBounds_toArray, List.set_cons_zero, List.set_cons_succ])
  refine wpAnyH_ready (rs := [9]) (by kernel_rfl) (by simp) ?_
  refine AllReadyH.cons (by simp only [List.getElem?_toArray, List.getElem?_cons_zero, List.getElem?_cons_succ]; rfl) (fun K hK => ?_) AllReadyH.nil
  go_simp
  go_at_call 19
  refine (kx1 w0).mono ?_
  rintro e w1 ⟨⟨p, ok1, rfl, hp⟩, hwq⟩
  have hb : Below w0.heap.size w0 w1 := by rw [hwq]; exact Below.refl _ _
  have hS1 := Below.then hS0 hb
  clear hwq
  clear hb
  refine hK.out _ _ (by exact hS1) ?_
  clear hHeld hK
  intro hHeld
  (try simp only [Act.put, List.setIfInBounds_toArray, List.set_cons_zero, List.set_cons_succ])
  refine wpAnyH_take (i := 10) (v := ?_) (by simp only [List.getElem?_toArray, List.getElem?_cons_zero, List.getElem?_cons_succ]; rfl) (by kernel_rfl) (by kernel_rfl) (by kernel_rfl) (by exact fun _ _ _ h => h) (Or.inl ⟨by rfl, ?_⟩) (by assumption) ?_; rotate_left; (focus (intro w hSw; (try dsimp only at hSw); go_simp; try with_reducible rfl)); (try simp only [Act.put, List.setIfInBounds_toArray, List.set_cons_zero, List.set_cons_succ])
  refine wpAnyH_take (i := 11) (v := ?_) (by simp only [List.getElem?_toArray, List.getElem?_cons_zero, List.getElem?_cons_succ]; rfl) (by kernel_rfl) (by kernel_rfl) (by kernel_rfl) (by exact fun _ _ _ h => h) (Or.inl ⟨by rfl, ?_⟩) (by assumption) ?_; rotate_left; (focus (intro w hSw; (try dsimp only at hSw); go_simp; try with_reducible rfl)); (try simp only [Act.put, List.setIfInBounds_toArray, List.set_cons_zero, List.set_cons_succ])
  refine wpAnyH_take (i := 12) (v := ?_) (by simp only [List.getElem?_toArray, List.getElem?_cons_zero, List.getElem?_cons_succ]; rfl) (by kernel_rfl) (by kernel_rfl) (by kernel_rfl) (by exact fun _ _ _ h => h) (Or.inl ⟨by rfl, ?_⟩) (by assumption) ?_; rotate_left; (focus (intro w hSw; (try dsimp only at hSw); go_simp; try with_reducible rfl)); (try simp only [Act.put, List.setIfInBounds_toArray, List.set_cons_zero, List.set_cons_succ])
  refine wpAnyH_take (i := 13) (v := ?_) (by simp only [List.getElem?_toArray, List.getElem?_cons_zero, List.getElem?_cons_succ]; rfl) (by kernel_rfl) (by kernel_rfl) (by kernel_rfl) (by exact fun _ _ _ h => h) (Or.inl ⟨by rfl, ?_⟩) (by assumption) ?_; rotate_left; (focus (intro w hSw; (try dsimp only at hSw); go_simp; try with_reducible rfl)); (try simp only [Act.put, List.setIfInBounds_toArray, List.set_cons_zero, List.set_cons_succ])
  refine wpAnyH_take (i := 14) (v := ?_) (by simp only [List.getElem?_toArray, List.getElem?_cons_zero, List.getElem?_cons_succ]; rfl) (by kernel_rfl) (by kernel_rfl) (by kernel_rfl) (by exact fun _ _ _ h => h) (Or.inl ⟨by rfl, ?_⟩) (by assumption) ?_; rotate_left; (focus (intro w hSw; (try dsimp only at hSw); go_simp; try with_reducible rfl)); (try simp only [Act.put, List.setIfInBounds_toArray, List.set_cons_zero, List.set_cons_succ])
  refine wpAnyH_done (by kernel_rfl) ?_ _
  have hb3 := stab_blk _ _ _ _ hb1 hS1
  have hB3 := Below.then hB1 hS1
  have hcb := hc1 _ hS1
  replace hcb : w1.cell? ⟨y.block, y.off + 1, none⟩ = some (.int .i64 (b : Int)) := hcb
  have hfrom := from_run m6 hx2
  clear hHeld hc0 hc1 hS0 hS1 hb1 hB1 hmid kx1 hx1 wa m1 m4 hx2
  go_wp2_with fail
  refine (kx2 w1).mono ?_
  rintro e W4 ⟨⟨n, ok2, rfl, hn⟩, hq⟩
  replace hq := hq.symm
  subst hq
  clear kx2 hcb hfrom wb m2 m3 m5 m6
  have hkey : ∀ k, IsT s k → ok1 = true ∧ ok2 = true ∧ k.p = p ∧ k.n = n := fun k hk => by
    obtain ⟨q1, q2⟩ := hcut k hk
    obtain ⟨⟨a0, a1⟩, a2, a3, a4, a5⟩ := insE_zero.1 hk.1
    have r1 := hp k.p (by omega) (by omega) q1
    have r2 := hn k.n (by omega) (by omega) q2
    exact ⟨r1.1, r2.1, r1.2.symm, r2.2.symm⟩
  clear hcut hp hn hab
  have hE2 := fun (i : Ins) => riEnc_any i
  have hT2 := fun (i : Ins) (hi : insE i = 0) => riText_any i hi
  generalize w1 = Z2 at *
  by_cases hok : ok1 = true ∧ ok2 = true
  rotate_left
  · have hno : ∀ k, ¬ IsT s k := fun k hk => hok ⟨(hkey k hk).1, (hkey k hk).2.1⟩
    clear hkey hE2 hT2
    have hok2 : (ok1 && ok2) = false := by cases ok1 <;> cases ok2 <;> simp_all
    cases ok1 with
    | false =>
      clear hok hok2
      go_wp2_with fail
      go_loopw [10] (fun t10 wc => t10 = .int .i64 0 ∧ Z2 = wc) (fun _ _ => 0)
      case atStart => exact ⟨rfl, rfl⟩
      case round =>
      obtain ⟨rfl, hwr⟩ := hrel
      subst hwr
      have hb6 := hb3
      have hB6 := hB3
      clear hb3
      obtain ⟨W7, hW7, hth7, hb7, hk7⟩ := put_box hb6 ⟨0, 0, 0⟩
      have hB7 := hk7 _ _ (Nat.le_refl _) hB6
      have hr7 := hb7.range
      clear hk7 hb6
      go_wp2_with (first | (refine wpList_store_row rfl _ _ rfl w.heap.size rfl (ins3 ⟨0, 0, 0⟩) rfl hth7 hsz (ins3_one _) hW7 ?_) | fail)
      refine bodyPost_ret (v := .tuple #[.agg (ins3 ⟨0, 0, 0⟩).toArray, .int .i64 6]) (results_row2 rfl _ _ w.heap.size rfl (.int .i64 6) rfl (ins3 ⟨0, 0, 0⟩) hr7 hund rfl hsz) rfl ?_
      exact ⟨⟨0, 0, 0⟩, 6, rfl, .inr ⟨rfl, rfl, hno⟩, hB7⟩
    | true =>
      obtain rfl : ok2 = false := by simpa using hok2
      clear hok hok2
      go_wp2_with fail
      go_loopw [10] (fun t10 wc => t10 = .int .i64 0 ∧ Z2 = wc) (fun _ _ => 0)
      case atStart => exact ⟨rfl, rfl⟩
      case round =>
      obtain ⟨rfl, hwr⟩ := hrel
      subst hwr
      have hb6 := hb3
      have hB6 := hB3
      clear hb3
      obtain ⟨W7, hW7, hth7, hb7, hk7⟩ := put_box hb6 ⟨0, 0, 0⟩
      have hB7 := hk7 _ _ (Nat.le_refl _) hB6
      have hr7 := hb7.range
      clear hk7 hb6
      go_wp2_with (first | (refine wpList_store_row rfl _ _ rfl w.heap.size rfl (ins3 ⟨0, 0, 0⟩) rfl hth7 hsz (ins3_one _) hW7 ?_) | fail)
      refine bodyPost_ret (v := .tuple #[.agg (ins3 ⟨0, 0, 0⟩).toArray, .int .i64 6]) (results_row2 rfl _ _ w.heap.size rfl (.int .i64 6) rfl (ins3 ⟨0, 0, 0⟩) hr7 hund rfl hsz) rfl ?_
      exact ⟨⟨0, 0, 0⟩, 6, rfl, .inr ⟨rfl, rfl, hno⟩, hB7⟩
  obtain ⟨rfl, rfl⟩ := hok
  go_wp2_with fail
  go_loopw [10] (fun t10 wc => ∃ k : Nat, k ≤ 23 ∧ t10 = .int .i64 (k : Int) ∧ (∀ j : Nat, j < k → ¬ IsT s ⟨(j : Int), p, n⟩) ∧ BlkL w.heap.size (ins3 ⟨0, 0, 0⟩) wc ∧ Below w.heap.size w wc) (fun t10 _ => 23 - (Go.RowKit.intOf t10).toNat)
  case atStart => exact ⟨0, by omega, rfl, fun j hj => by omega, hb3, hB3⟩
  case round =>
  clear hb3 hB3
  obtain ⟨k, hk, rfl, hne, hb, hB⟩ := hrel
  by_cases hk2 : k < 23
  rotate_left
  · have hno : ∀ k, ¬ IsT s k := fun i hi => by
      obtain ⟨-, -, q1, q2⟩ := hkey i hi
      obtain ⟨⟨a0, a1⟩, -⟩ := insE_zero.1 hi.1
      have e : i = ⟨((i.o.toNat : Nat) : Int), p, n⟩ := by
        cases i
        simp only at q1 q2 a0
        rw [q1, q2, Int.toNat_of_nonneg a0]
      exact hne i.o.toNat (by omega) (e ▸ hi)
    have j1 : ¬ (k : Int) ≤ 22 := by omega
    have hb6 := hb
    have hB6 := hB
    clear hb hB hne hkey hE2 hT2 hk2
    obtain ⟨W7, hW7, hth7, hb7, hk7⟩ := put_box hb6 ⟨0, 0, 0⟩
    have hB7 := hk7 _ _ (Nat.le_refl _) hB6
    have hr7 := hb7.range
    clear hk7 hb6
    go_wp2_with (first | (refine wpList_store_row rfl _ _ rfl w.heap.size rfl (ins3 ⟨0, 0, 0⟩) rfl hth7 hsz (ins3_one _) hW7 ?_) | fail)
    refine bodyPost_ret (v := .tuple #[.agg (ins3 ⟨0, 0, 0⟩).toArray, .int .i64 6]) (results_row2 rfl _ _ w.heap.size rfl (.int .i64 6) rfl (ins3 ⟨0, 0, 0⟩) hr7 hund rfl hsz) rfl ?_
    exact ⟨⟨0, 0, 0⟩, 6, rfl, .inr ⟨rfl, rfl, hno⟩, hB7⟩
  have j1 : (k : Int) ≤ 22 := by omega
  have kE := hE2 ⟨(k : Int), p, n⟩
  have kT := hT2 ⟨(k : Int), p, n⟩
  have hi6 := blkl_alloc wr (ins3 ⟨(k : Int), p, n⟩).toArray 23
  have hB6 := alloc_below wr (.cells (ins3 ⟨(k : Int), p, n⟩).toArray 23)
  replace hi6 : BlkL wr.heap.size (ins3 ⟨(k : Int), p, n⟩) (wr.alloc (.cells (ins3 ⟨(k : Int), p, n⟩).toArray 23)) := hi6
  have hb6 := stab_blk _ _ _ _ hb hB6
  replace hB6 := Below.then hB hB6
  clear hE2 hT2 hb hB
  go_upto_region 17 with fail
  generalize wr.alloc (.cells #[.int .i64 (k : Int), .int .i64 p, .int .i64 n] 23) = W6 at *
  generalize wr.heap.size = g at *
  have hr6 := hi6.range
  go_wp2_with (first | (refine wpList_load_row rfl _ rfl g rfl (ins3 ⟨(k : Int), p, n⟩) hr6 hund rfl hsz ?_) | fail)
  refine (kE W6).mono ?_
  rintro e W7 ⟨rfl, hb⟩
  have hi7 := stab_blk _ _ _ _ hi6 hb
  have hb7 := stab_blk _ _ _ _ hb6 hb
  have hB7 := Below.then hB6 hb
  clear hi6 hb6 hB6 hb hr6 kE
  have hr7 := hi7.range
  have hstep : ∀ h : ¬ IsT s ⟨(k : Int), p, n⟩, ∀ j : Nat, j < k + 1 → ¬ IsT s ⟨(j : Int), p, n⟩ := fun h j hj => by
    by_cases e : j = k
    · subst e; exact h
    · exact hne j (by omega)
  by_cases hE : insE ⟨(k : Int), p, n⟩ = 0
  rotate_left
  · have hnx := hstep fun h => hE h.1
    obtain ⟨E, hEE⟩ : ∃ E, insE ⟨(k : Int), p, n⟩ = E := ⟨_, rfl⟩
    rw [hEE] at hE ⊢
    have hq : (E == 0) = false := by simpa using hE
    clear hstep hne hkey kT hE hEE hi7 hr7
    go_wp2_with fail
    exact ⟨⟨k + 1, by omega, by simp, hnx, hb7, hB7⟩, by simp [Go.RowKit.intOf]; omega⟩
  replace kT := kT hE
  obtain ⟨x, hx⟩ : ∃ x, insB ⟨(k : Int), p, n⟩ = x := ⟨_, rfl⟩
  rw [hx] at kT
  by_cases he : x = s
  rotate_left
  · have hnx := hstep fun h => he (hx.symm.trans h.2)
    have hq : (x.toList == s.toList) = false := eqs_ne he
    rw [hE]
    clear hstep hne hkey hE hx he
    go_wp2_with (first | (refine wpList_load_rowg (by rfl) _ rfl g rfl (ins3 ⟨(k : Int), p, n⟩) hr7 hund rfl hsz ?_) | fail)
    refine (kT W7).mono ?_
    rintro e W8 ⟨rfl, hb⟩
    have hb8 := stab_blk _ _ _ _ hb7 hb
    have hB8 := Below.then hB7 hb
    clear hb hb7 hB7 hi7 hr7 kT
    go_wp2_with fail
    exact ⟨⟨k + 1, by omega, by simp, hnx, hb8, hB8⟩, by simp [Go.RowKit.intOf]; omega⟩
  have hfin : ParR s ⟨(k : Int), p, n⟩ 0 := .inl ⟨rfl, hE, hx.trans he⟩
  have hq : (x.toList == s.toList) = true := by rw [he]; simp
  rw [hE]
  clear hstep hne hkey hE hx he
  go_wp2_with (first | (refine wpList_load_rowg (by rfl) _ rfl g rfl (ins3 ⟨(k : Int), p, n⟩) hr7 hund rfl hsz ?_) | fail)
  refine (kT W7).mono ?_
  rintro e W8 ⟨rfl, hb⟩
  have hb8 := stab_blk _ _ _ _ hb7 hb
  have hi8 := stab_blk _ _ _ _ hi7 hb
  have hB8 := Below.then hB7 hb
  clear hb hb7 hB7 hi7 hr7 kT
  have hr8 := hi8.range
  obtain ⟨W9, hW9, hth9, hb9, hk9⟩ := put_box hb8 ⟨(k : Int), p, n⟩
  have hB9 := hk9 _ _ (Nat.le_refl _) hB8
  have hr9 := hb9.range
  clear hk9 hb8
  go_wp2_with (first | (refine wpList_load_row rfl _ rfl g rfl (ins3 ⟨(k : Int), p, n⟩) hr8 hund rfl hsz ?_) | (refine wpList_store_row rfl _ _ rfl w.heap.size rfl (ins3 ⟨(k : Int), p, n⟩) rfl hth9 hsz (ins3_one _) hW9 ?_) | fail)
  refine bodyPost_ret (v := .tuple #[.agg (ins3 ⟨(k : Int), p, n⟩).toArray, .int .i64 0]) (results_row2 rfl _ _ w.heap.size rfl (.int .i64 0) rfl (ins3 ⟨(k : Int), p, n⟩) hr9 hund rfl hsz) rfl ?_
  exact ⟨⟨(k : Int), p, n⟩, 0, rfl, hfin, hB9⟩
end Go.Proofs.YtolccbdogfmcaaaDoor
