/-
  P1501: where the fields of a word lie: the law's walk.
-/
import Derived.Test.YtolccbdogfmcaaaIsaWordsWalk
namespace Go.Proofs.Ytolccbdogfmcaaa
open Go.RowKit
set_option maxRecDepth 8000
set_option linter.unusedSimpArgs false
set_option linter.unusedVariables false

/-- A bit of the middle, turned: the word is no instruction. -/
theorem fld_mid {i : Ins} (h : insE i = 0) (k : Nat) (h0 : 32 ≤ k) (h1 : k < 48) : ∃ x, bits .xor .i64 (insW i) ((2 ^ k : Nat) : Int) = x ∧ fit64 x ∧ decE x = 11 := by
  obtain ⟨⟨a0, a1⟩, p0, p1, n0, n1⟩ := insE_zero.1 h
  have hW := insW_eq h
  have hr := insW_range (i := i)
  obtain ⟨V, hV⟩ : ∃ V : Nat, insW i = (V : Int) := ⟨(insW i).toNat, by omega⟩
  rw [hV] at hW hr ⊢
  have hk : ∃ b : Fin 16, k = 32 + b.val := ⟨⟨k - 32, by omega⟩, by simp; omega⟩
  obtain ⟨b, rfl⟩ := hk
  have hp : 2 ^ (32 + b.val) < 281474976710656 := Nat.lt_of_lt_of_le (Nat.pow_lt_pow_right (by decide) h1) (by decide)
  have hx : V ^^^ 2 ^ (32 + b.val) = V + 2 ^ (32 + b.val) := by
    have hl : V % 2 ^ (32 + b.val + 1) < 2 ^ (32 + b.val) := by
      obtain ⟨q, lo, hq, hlo⟩ : ∃ q lo : Nat, V = 281474976710656 * q + lo ∧ lo < 4294967296 := ⟨V / 281474976710656, V % 281474976710656, by omega, by omega⟩
      have h48 : 281474976710656 = 2 ^ (32 + b.val + 1) * 2 ^ (15 - b.val) := by rw [← Nat.pow_add, show 32 + b.val + 1 + (15 - b.val) = 48 by omega]
      rw [hq, h48, Nat.mul_assoc, Nat.mul_add_mod]
      have c1 := Nat.mod_le lo (2 ^ (32 + b.val + 1))
      have c2 : 2 ^ 32 ≤ 2 ^ (32 + b.val) := Nat.pow_le_pow_right (by decide) (by omega)
      omega
    have e := xor_bit (h := V / 2 ^ (32 + b.val + 1)) hl
    have d := Nat.div_add_mod' V (2 ^ (32 + b.val + 1))
    rw [d] at e
    rw [e]
    omega
  rw [bxor63 V _ (by omega) (by omega), hx]
  refine ⟨_, rfl, by unfold fit64; omega, ?_⟩
  have hm : ∃ m : Nat, 2 ^ (32 + b.val) = m * 4294967296 ∧ 1 ≤ m ∧ m < 65536 := by
    refine ⟨2 ^ b.val, by rw [Nat.pow_add]; omega, Nat.one_le_two_pow, ?_⟩
    exact Nat.lt_of_le_of_lt (Nat.pow_le_pow_right (by decide) (show b.val ≤ 15 by omega)) (by decide)
  obtain ⟨m, hm, m1, m2⟩ := hm
  rw [hm]
  have e0 : ((V + m * 4294967296 : Nat) : Int) = i.o * 72057594037927936 + i.p * 281474976710656 + (m : Int) * 4294967296 + i.n % 4294967296 := by omega
  rw [e0]
  unfold decE wOp wP wMid u64
  rw [if_neg (by omega), if_neg (by omega), if_pos (by omega)]
/-- The lowest bit, turned: the number is one more, or one less. -/
theorem fld_low {i : Ins} (h : insE i = 0) : ∃ x n, bits .xor .i64 (insW i) 1 = x ∧ fit64 x ∧ decE x = 0 ∧ decI x = ⟨i.o, i.p, n⟩ ∧ (n - i.n = 1 ∨ n - i.n = -1) := by
  obtain ⟨⟨a0, a1⟩, p0, p1, n0, n1⟩ := insE_zero.1 h
  have hW := insW_eq h
  have hr := insW_range (i := i)
  obtain ⟨V, hV⟩ : ∃ V : Nat, insW i = (V : Int) := ⟨(insW i).toNat, by omega⟩
  rw [hV] at hW hr ⊢
  have hb := bxor63 V 1 (by omega) (by omega)
  have key : ∀ d : Int, (d = 1 ∧ i.n % 2 = 0 ∨ d = -1 ∧ i.n % 2 = 1) → fit64 ((V : Int) + d) ∧ decE ((V : Int) + d) = 0 ∧ decI ((V : Int) + d) = ⟨i.o, i.p, i.n + d⟩ := by
    intro d hd
    have e0 : (V : Int) + d = i.o * 72057594037927936 + i.p * 281474976710656 + (i.n % 4294967296 + d) := by omega
    obtain ⟨lo, hlo⟩ : ∃ lo, i.n % 4294967296 + d = lo := ⟨_, rfl⟩
    have l0 : 0 ≤ lo ∧ lo < 4294967296 := by omega
    rw [e0, hlo]
    have c1 : wOp (i.o * 72057594037927936 + i.p * 281474976710656 + lo) = i.o := by unfold wOp u64; omega
    have c2 : wP (i.o * 72057594037927936 + i.p * 281474976710656 + lo) = i.p := by unfold wP u64; omega
    have c3 : wMid (i.o * 72057594037927936 + i.p * 281474976710656 + lo) = 0 := by unfold wMid u64; omega
    have c4 : wLow (i.o * 72057594037927936 + i.p * 281474976710656 + lo) = lo := by unfold wLow u64; omega
    have c5 : wN (i.o * 72057594037927936 + i.p * 281474976710656 + lo) = i.n + d := by
      unfold wN
      rw [c4]
      split <;> omega
    have c6 : decE (i.o * 72057594037927936 + i.p * 281474976710656 + lo) = 0 := decE_zero.2 ⟨by omega, by omega, c3⟩
    refine ⟨by unfold fit64; omega, c6, ?_⟩
    unfold decI
    rw [if_pos c6, c1, c2, c5]
  by_cases he : V % 2 = 0
  · have hx : V ^^^ 1 = V + 1 := by
      have e := xor_bit (h := V / 2) (l := 0) (k := 0) (by decide)
      have d : V / 2 * 2 ^ (0 + 1) + 0 = V := by simp; omega
      rw [d] at e
      simp at e
      rw [e]
      omega
    obtain ⟨f, e1, e2⟩ := key 1 (.inl ⟨rfl, by omega⟩)
    refine ⟨(V : Int) + 1, i.n + 1, ?_, f, e1, e2, .inl (by omega)⟩
    rw [show (1 : Int) = ((1 : Nat) : Int) from rfl, hb, hx]
    rfl
  · have hx : V ^^^ 1 = V - 1 := by
      have e := xor_bit (h := V / 2) (l := 0) (k := 0) (by decide)
      have d : V / 2 * 2 ^ (0 + 1) + 0 = V - 1 := by simp; omega
      have d2 : V / 2 * 2 ^ (0 + 1) + 2 ^ 0 + 0 = V := by simp; omega
      rw [d, d2] at e
      obtain ⟨U, hU⟩ : ∃ U, V - 1 = U := ⟨_, rfl⟩
      rw [hU] at e ⊢
      rw [← e, Nat.pow_zero, Nat.xor_assoc, Nat.xor_self, Nat.xor_zero]
    obtain ⟨f, e1, e2⟩ := key (-1) (.inr ⟨rfl, by omega⟩)
    refine ⟨(V : Int) + -1, i.n + -1, ?_, f, e1, e2, .inr (by omega)⟩
    rw [show (1 : Int) = ((1 : Nat) : Int) from rfl, hb, hx]
    omega
set_option maxRecDepth 8000 in
set_option maxHeartbeats 8000000 in
theorem isaFields_walk {I : World → Prop} (C : IsaOk I) (i0 : Ins) (bit : Int) (w : World) (hI : ∀ W, Below w.heap.size w W → I W) :
    Calls Try.prog 5 #[i0.v, .int .i64 bit] w fun r w' => r = .returned (.bool true) ∧ Below w.heap.size w w' := by
  have hund := Try.underlying23
  have hsz : (Try.prog.info? 23).map (·.size) = some 3 := by kernel_rfl
  have hb0 := blkl_alloc w (ins3 i0).toArray 23
  have hB0 := alloc_below w (.cells (ins3 i0).toArray 23)
  replace hb0 : BlkL w.heap.size (ins3 i0) (w.alloc (.cells (ins3 i0).toArray 23)) := hb0
  have hgood := good_ins i0
  have kg := igood_any i0
  obtain ⟨i, hi⟩ : ∃ i, goodI i0 = i := ⟨_, rfl⟩
  rw [hi] at hgood
  simp only [hi] at kg
  clear hi
  obtain ⟨k, hk0, hk1, hkk⟩ : ∃ k : Nat, 32 ≤ k ∧ k < 48 ∧ 32 + bit % 16 = (k : Int) := ⟨(32 + bit % 16).toNat, by omega, by omega, by omega⟩
  have kw := w15_any bit 16 (by decide) (by decide)
  obtain ⟨b3, hb3⟩ : ∃ b3, bit % 16 = b3 := ⟨_, rfl⟩
  have hwr : IntKind.i64.wrap (32 + b3) = (k : Int) := by rw [IntKind.wrap_i64]; omega
  rw [hb3] at kw
  clear hb3 hkk
  obtain ⟨x, hx, fx, ex⟩ := fld_mid hgood k hk0 hk1
  obtain ⟨y, n, hy, fy, ey, iy, hn⟩ := fld_low hgood
  have hsh : IntKind.i64.wrap (1 * 2 ^ ((k : Int)).toNat) = ((2 ^ k : Nat) : Int) := by
    have hp : 2 ^ k < 281474976710656 := Nat.lt_of_lt_of_le (Nat.pow_lt_pow_right (by decide) hk1) (by decide)
    have e : (1 : Int) * 2 ^ ((k : Int)).toNat = ((2 ^ k : Nat) : Int) := by simp
    rw [e]
    clear e hx
    generalize 2 ^ k = M at *
    rw [IntKind.wrap_i64]
    omega
  have hsl := shift_shl_i64 (yk := .i64) (x := 1) (y := (k : Int)) (Int.natCast_nonneg k) (show (k : Int) ≤ 64 by omega)
  rw [hsh] at hsl
  clear hsh
  obtain ⟨K, hK⟩ : ∃ K : Int, (k : Int) = K := ⟨_, rfl⟩
  obtain ⟨M, hM⟩ : ∃ M : Int, ((2 ^ k : Nat) : Int) = M := ⟨_, rfl⟩
  rw [hM] at hx hsl
  rw [hK] at hsl hwr
  clear hM hK hk0 hk1
  obtain ⟨⟨o0, o1⟩, p0, p1, n0, n1⟩ := insE_zero.1 hgood
  have hW := insW_eq hgood
  obtain ⟨V, hV⟩ : ∃ V, insW i = V := ⟨_, rfl⟩
  have kE := C.enc i
  rw [hV] at hW hx hy kE
  rw [hgood] at kE
  have hu1 : IntKind.u64.wrap V = V := by rw [IntKind.wrap_u64]; omega
  have hu2 : V / 72057594037927936 = i.o := by omega
  have hu3 : IntKind.u64.wrap i.o = i.o := by rw [IntKind.wrap_u64]; omega
  have hu4 : bits .and .u64 (V / 281474976710656) 255 = i.p := by rw [and_u64 8 (by decide) 256 255 (by decide) (by decide)]; omega
  have hu5 : IntKind.u64.wrap i.p = i.p := by rw [IntKind.wrap_u64]; omega
  have hu6 : IntKind.u32.wrap V = i.n % 4294967296 := by rw [IntKind.wrap_u32]; omega
  have hu7 : IntKind.u32.wrap i.n = i.n % 4294967296 := by rw [IntKind.wrap_u32]
  have kX := C.dec x fx
  have kY := C.dec y fy
  rw [ex] at kX
  rw [ey, iy] at kY
  obtain ⟨J, hJ⟩ : ∃ J, decI x = J := ⟨_, rfl⟩
  rw [hJ] at kX
  obtain ⟨d, hd⟩ : ∃ d, IntKind.i64.wrap (n - i.n) = d := ⟨_, rfl⟩
  have hd1 : d = 1 ∨ d = -1 := by rw [← hd, IntKind.wrap_i64]; omega
  have hd2 : (d == 1) = true ∨ (d == 1) = false ∧ (d == -1) = true := by rcases hd1 with rfl | rfl <;> simp
  clear hJ hV hgood hW ex ey iy fx fy hn hd1
  go_enter Try.func5, Try.ntmps5
  go_upto_region 1 with fail
  generalize w.alloc (.cells #[.int .i64 i0.o, .int .i64 i0.p, .int .i64 i0.n] 23) = W0 at *
  go_wp2_with fail
  refine (iknown_any C W0 (hI _ hB0)).mono ?_
  rintro e W1 ⟨rfl, hB1⟩
  replace hb0 := stab_blk _ _ _ _ hb0 hB1
  replace hB0 := Below.then hB0 hB1
  clear hB1
  have hr0 := hb0.range
  go_wp2_with (first | (refine wpList_load_row rfl _ rfl w.heap.size rfl (ins3 i0) hr0 hund rfl hsz ?_) | fail)
  refine (kg W1).mono ?_
  rintro e W2 ⟨rfl, hB2⟩
  have hb2 := stab_blk _ _ _ _ hb0 hB2
  have hB02 := Below.then hB0 hB2
  obtain ⟨W3, hW3, hth3, hb3, hk3⟩ := put_box hb2 i
  have hB3 := hk3 _ _ (Nat.le_refl _) hB02
  clear hr0 hb0 hB0 hB2 hb2 hB02 hk3 kg
  have hr3 := hb3.range
  go_wp2_with (first | (refine wpList_store_row rfl _ _ rfl w.heap.size rfl (ins3 i) rfl hth3 hsz (ins3_one _) hW3 ?_) | (refine wpList_load_row rfl _ rfl w.heap.size rfl (ins3 i) hr3 hund rfl hsz ?_) | fail)
  refine (kE W3 (hI _ hB3)).mono ?_
  rintro e W4 ⟨rfl, hB4⟩
  have hb4 := stab_blk _ _ _ _ hb3 hB4
  replace hB4 := Below.then hB3 hB4
  clear hr3 hth3 hW3 hb3 hB3 kE
  go_wp2_with fail
  refine (kw W4).mono ?_
  rintro e W4' ⟨rfl, hW4⟩
  replace hW4 := hW4.symm
  subst hW4
  clear kw
  go_wp2_with fail
  refine (kX W4 (hI _ hB4)).mono ?_
  rintro e W5 ⟨rfl, hB5⟩
  have hb5 := stab_blk _ _ _ _ hb4 hB5
  replace hB5 := Below.then hB4 hB5
  have hB6 := alloc_below W5 (.cells (ins3 J).toArray 23)
  have hb6 := stab_blk _ _ _ _ hb5 hB6
  replace hB6 := Below.then hB5 hB6
  clear kX hb4 hB4 hb5 hB5
  go_upto_region 7 with fail
  generalize W5.alloc (.cells #[.int .i64 J.o, .int .i64 J.p, .int .i64 J.n] 23) = W6 at *
  go_wp2_with fail
  refine (kY W6 (hI _ hB6)).mono ?_
  rintro e W7 ⟨rfl, hB7⟩
  have hb7 := stab_blk _ _ _ _ hb6 hB7
  replace hB7 := Below.then hB6 hB7
  have hn8 := blkl_alloc W7 (ins3 ⟨i.o, i.p, n⟩).toArray 23
  have hB8 := alloc_below W7 (.cells (ins3 ⟨i.o, i.p, n⟩).toArray 23)
  replace hn8 : BlkL W7.heap.size (ins3 ⟨i.o, i.p, n⟩) (W7.alloc (.cells (ins3 ⟨i.o, i.p, n⟩).toArray 23)) := hn8
  have hb8 := stab_blk _ _ _ _ hb7 hB8
  replace hB8 := Below.then hB7 hB8
  clear kY hb6 hB6 hb7 hB7
  go_upto_region 8 with fail
  generalize W7.alloc (.cells #[.int .i64 i.o, .int .i64 i.p, .int .i64 n] 23) = W8 at *
  generalize W7.heap.size = g at *
  have q0 := (hn8.1 0 _ rfl).1
  have q1 := (hn8.1 1 _ rfl).1
  have q2 := (hn8.1 2 _ rfl).1
  have z0 := (hb8.1 0 _ rfl).1
  have z1 := (hb8.1 1 _ rfl).1
  have z2 := (hb8.1 2 _ rfl).1
  rcases hd2 with hd2 | ⟨hd2, hd3⟩
  · go_wp2_with fail
    go_ret
    exact ⟨rfl, hB8⟩
  · go_wp2_with fail
    go_ret
    exact ⟨rfl, hB8⟩
end Go.Proofs.Ytolccbdogfmcaaa
