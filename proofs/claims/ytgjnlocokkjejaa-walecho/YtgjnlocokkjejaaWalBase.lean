/-
  NUMBERS AS BYTES, THE LEAST ONE FIRST (package wal's put, get, number), AND must.
-/
import Derived.Test.YtgjnlocokkjejaaDiskRows
namespace Go.Proofs.Ytgjnlocokkjejaa
open Go.RowKit Go.Maps

/-- The number that bytes make, the least one first. -/
def le : List Int → Int
  | [] => 0
  | x :: r => x + 256 * le r
/-- A number's bytes. -/
def enc (m : Nat) (n : Int) : List Int := (List.range m).map fun i => n / 2 ^ (8 * i) % 256
/-- Bytes laid over others. -/
def lay (l : List Int) (o : Nat) (x : List Int) : List Int := l.take o ++ x ++ l.drop (o + x.length)

theorem enc_len (m : Nat) (n : Int) : (enc m n).length = m := by simp [enc]
theorem enc_ok (m : Nat) (n : Int) : ∀ x ∈ enc m n, 0 ≤ x ∧ x < 256 := by
  intro x hx
  obtain ⟨i, _, rfl⟩ := List.mem_map.1 hx
  exact ⟨Int.emod_nonneg _ (by decide), Int.emod_lt_of_pos _ (by decide)⟩
theorem enc_succ (m : Nat) (n : Int) : enc (m + 1) n = enc m n ++ [n / 2 ^ (8 * m) % 256] := by simp [enc, List.range_succ]
theorem enc_cons (m : Nat) (n : Int) : enc (m + 1) n = n % 256 :: enc m (n / 256) := by
  simp only [enc, List.range_succ_eq_map, List.map_cons, List.map_map]
  congr 1
  · simp
  · apply List.map_congr_left
    intro i _
    simp only [Function.comp]
    rw [Int.ediv_ediv_of_nonneg (by decide)]
    congr 2
    rw [show 8 * (i + 1) = 8 + 8 * i by omega, Int.pow_add]
    rfl
theorem le_enc : ∀ (m : Nat) (n : Int), 0 ≤ n → n < 256 ^ m → le (enc m n) = n
  | 0, n, h0, h1 => by
    have : n = 0 := by simp at h1; omega
    subst this; rfl
  | m + 1, n, h0, h1 => by
    rw [enc_cons]
    simp only [le]
    have hp : (256 : Int) ^ (m + 1) = 256 * 256 ^ m := by rw [Int.pow_succ, Int.mul_comm]
    rw [le_enc m (n / 256) (by omega) (by rw [hp] at h1; omega)]
    omega
theorem le_lo : ∀ (l : List Int), (∀ x ∈ l, 0 ≤ x ∧ x < 256) → 0 ≤ le l
  | [], _ => by simp [le]
  | x :: r, h => by
    have := le_lo r (fun y hy => h y (by simp [hy]))
    have := h x (by simp)
    simp only [le]; omega
theorem le_hi : ∀ (l : List Int), (∀ x ∈ l, 0 ≤ x ∧ x < 256) → le l < 2 ^ (8 * l.length)
  | [], _ => by simp [le]
  | x :: r, h => by
    have h1 := le_hi r (fun y hy => h y (by simp [hy]))
    have h2 := h x (by simp)
    have hp : (2 : Int) ^ (8 * (x :: r).length) = 256 * 2 ^ (8 * r.length) := by
      rw [List.length_cons, show 8 * (r.length + 1) = 8 + 8 * r.length by omega, Int.pow_add]; rfl
    rw [hp]
    simp only [le]; omega
theorem le_append : ∀ (a b : List Int), le (a ++ b) = le a + le b * 2 ^ (8 * a.length)
  | [], b => by simp [le]
  | x :: r, b => by
    have hp : (2 : Int) ^ (8 * (x :: r).length) = 256 * 2 ^ (8 * r.length) := by
      rw [List.length_cons, show 8 * (r.length + 1) = 8 + 8 * r.length by omega, Int.pow_add]; rfl
    rw [List.cons_append, hp]
    simp only [le]
    rw [le_append r b, Int.mul_add, ← Int.mul_assoc, Int.mul_comm 256 (le b), Int.mul_assoc]
    omega
theorem take_le_le (l : List Int) (hl : ∀ x ∈ l, 0 ≤ x ∧ x < 256) (i : Nat) : le (l.take i) ≤ le l := by
  have h := le_append (l.take i) (l.drop i)
  rw [List.take_append_drop] at h
  have h2 : 0 ≤ le (l.drop i) * 2 ^ (8 * (l.take i).length) := Int.mul_nonneg (le_lo _ (fun x hx => hl x (List.mem_of_mem_drop hx))) (Int.le_of_lt (Int.pow_pos (by decide)))
  omega
theorem take_step (l : List Int) (i : Nat) (h : i < l.length) : le (l.take (i + 1)) = le (l.take i) + l.getD i 0 * 2 ^ (8 * i) := by
  rw [List.take_add_one, le_append, List.getElem?_eq_getElem h]
  simp only [Option.toList_some, le, List.length_take, Nat.min_eq_left (Nat.le_of_lt h)]
  rw [show l.getD i 0 = l[i] by simp [h], Int.mul_zero, Int.add_zero]

/-- Bits of their own, joined. -/
theorem or_add (n x : Int) (k : Nat) (h0 : 0 ≤ n) (h1 : n < 2 ^ k) (hx : 0 ≤ x) (hh : n + x * 2 ^ k < 9223372036854775808) : bits .or .i64 n (x * 2 ^ k) = n + x * 2 ^ k := by
  obtain ⟨a, rfl⟩ := Int.eq_ofNat_of_zero_le h0
  obtain ⟨b, rfl⟩ := Int.eq_ofNat_of_zero_le hx
  have hp : (2 : Int) ^ k = ((2 ^ k : Nat) : Int) := by simp
  rw [hp] at h1 hh ⊢
  have ha : a < 2 ^ k := by omega
  have hm : ((b : Int) * ((2 ^ k : Nat) : Int)) = ((b * 2 ^ k : Nat) : Int) := by simp
  rw [hm] at hh ⊢
  have hs : a + b * 2 ^ k < 9223372036854775808 := by omega
  have e0 : bits .or .i64 (a : Int) ((b * 2 ^ k : Nat) : Int) = IntKind.i64.wrap (((BitVec.ofInt 64 (a : Int)).toNat ||| (BitVec.ofInt 64 ((b * 2 ^ k : Nat) : Int)).toNat : Nat) : Int) :=
    congrArg (fun n : Nat => IntKind.i64.wrap (n : Int)) (BitVec.toNat_or (BitVec.ofInt 64 (a : Int)) (BitVec.ofInt 64 ((b * 2 ^ k : Nat) : Int)))
  have hn : ∀ c : Nat, c < 9223372036854775808 → (BitVec.ofInt 64 (c : Int)).toNat = c := by
    intro c hc
    rw [BitVec.toNat_ofInt]
    omega
  rw [e0, hn a (by omega), hn (b * 2 ^ k) (by omega), Nat.or_comm, ← Nat.shiftLeft_eq, ← Nat.shiftLeft_add_eq_or_of_lt ha, Nat.shiftLeft_eq, IntKind.wrap_i64]
  omega

theorem lay_nil (l : List Int) (o : Nat) : lay l o [] = l := by simp [lay]
theorem lay_len (l : List Int) (o : Nat) (x : List Int) (h : o + x.length ≤ l.length) : (lay l o x).length = l.length := by simp [lay]; omega
theorem lay_step (l : List Int) (o : Nat) (x : List Int) (v : Int) (h : o + x.length < l.length) : (lay l o x).set (o + x.length) v = lay l o (x ++ [v]) := by
  unfold lay
  have h1 : (l.take o ++ x).length = o + x.length := by simp; omega
  rw [List.set_append, if_neg (by omega), h1, Nat.sub_self, List.drop_eq_getElem_cons h, List.set_cons_zero]
  simp [Nat.add_assoc]
theorem lay_ok (l : List Int) (o : Nat) (x : List Int) (hl : ∀ y ∈ l, 0 ≤ y ∧ y < 256) (hx : ∀ y ∈ x, 0 ≤ y ∧ y < 256) : ∀ y ∈ lay l o x, 0 ≤ y ∧ y < 256 := by
  intro y hy
  simp only [lay, List.mem_append] at hy
  rcases hy with (hy | hy) | hy
  · exact hl y (List.mem_of_mem_take hy)
  · exact hx y hy
  · exact hl y (List.mem_of_mem_drop hy)

/-- A row of bytes, 128 of them, in a block of its own. -/
abbrev Row (w : World) (g : Nat) (l : List Int) : Prop := w.heap[g]? = some (.cells (rowOf l) 5 (0, 0))

theorem Row.lt {w : World} {g : Nat} {l : List Int} (h : Row w g l) : g < w.heap.size := (Array.getElem?_eq_some_iff.1 h).1
theorem Row.kept {S : List Nat} {w w' : World} {g : Nat} {l : List Int} (h : Row w g l) (k : Kept S w w') (hg : g ∉ S) : Row w' g l := (k.block g h.lt hg).trans h

set_option maxHeartbeats 1000000 in
theorem get_any (w : World) (g o m cap : Nat) (l : List Int) (hg : Row w g l) (ho : o + m ≤ l.length) (hm : m ≤ 8) (ok : ∀ x ∈ l, 0 ≤ x ∧ x < 256) (h63 : le ((l.drop o).take m) < 9223372036854775808) :
    Calls Try.prog 56 #[.slice (some ⟨g, o, none⟩) m cap] w fun e w' => e = .returned (.int .i64 (le ((l.drop o).take m))) ∧ w' = w := by
  obtain ⟨z, hz⟩ : ∃ z, (l.drop o).take m = z := ⟨_, rfl⟩
  have hzl : z.length = m := by rw [← hz]; simp; omega
  have hzo : ∀ x ∈ z, 0 ≤ x ∧ x < 256 := fun x hx => ok x (List.mem_of_mem_drop (List.mem_of_mem_take (hz ▸ hx)))
  have hr : ∀ j, j < m → w.cell? ⟨g, o + j, none⟩ = some (.int .u8 (z.getD j 0)) := by
    intro j hj
    rw [row_cell hg (o + j) (by omega), ← hz]
    simp [hj, List.getElem?_drop]
  rw [hz] at h63 ⊢
  clear hz ok ho hg
  go_enter Try.func56, Try.ntmps56
  go_wp2_with fail
  go_loopw [3, 8] (fun t3 t8 wr => ∃ i n : Int, 0 ≤ i ∧ i ≤ m ∧ t8 = .int .i64 i ∧ t3 = .int .i64 n ∧ n = le (z.take i.toNat) ∧ wr = w) (fun _ t8 _ => m - (Go.RowKit.intOf t8).toNat)
  case atStart => exact ⟨0, 0, by omega, by omega, rfl, rfl, rfl, rfl⟩
  case round =>
    obtain ⟨i, n, hi0, hi1, rfl, rfl, hn, rfl⟩ := hrel
    by_cases hlt : i < m
    · have c := hr i.toNat (by omega)
      have hst := take_step z i.toNat (by omega)
      have hx : 0 ≤ z.getD i.toNat 0 ∧ z.getD i.toNat 0 < 256 := by
        rw [show z.getD i.toNat 0 = z[i.toNat]'(by omega) by simp [show i.toNat < z.length by omega]]
        exact hzo _ (List.getElem_mem _)
      have hle := take_le_le z hzo (i.toNat + 1)
      have hlo := le_lo (z.take i.toNat) (fun x hx => hzo x (List.mem_of_mem_take hx))
      have hhi := le_hi (z.take i.toNat) (fun x hx => hzo x (List.mem_of_mem_take hx))
      rw [show (z.take i.toNat).length = i.toNat by simp; omega] at hhi
      generalize z.getD i.toNat 0 = x at c hst hx
      rw [← hn] at hst hlo hhi
      have hor := or_add n x (8 * i.toNat) hlo hhi hx.1 (by omega)
      have hw2 : wrap64 (x * 2 ^ (8 * i.toNat)) = x * 2 ^ (8 * i.toNat) := by
        have : 0 ≤ x * 2 ^ (8 * i.toNat) := Int.mul_nonneg hx.1 (Int.le_of_lt (Int.pow_pos (by decide)))
        unfold wrap64
        omega
      have h8 : (8 * i).toNat = 8 * i.toNat := by omega
      have hfin : bits .or .i64 n (wrap64 (x * 2 ^ (8 * i).toNat)) = le (z.take (i + 1).toNat) := by
        rw [h8, hw2, hor, show (i + 1).toNat = i.toNat + 1 by omega, hst]
      clear hor hw2 h8 hst hle hhi hlo hn hr
      go_wp2_with fail
      go_roundw
      case rel => exact ⟨i + 1, _, by omega, by omega, rfl, rfl, rfl, trivial⟩
      case measure => simp [Go.RowKit.intOf]; omega
    · obtain rfl : i = m := by omega
      rw [Int.toNat_natCast, List.take_of_length_le (by omega)] at hn
      subst hn
      go_wp2
      go_ret
      exact ⟨rfl, rfl⟩

set_option maxHeartbeats 1000000 in
theorem put_any (w : World) (g o m cap : Nat) (l : List Int) (n : Int) (hg : Row w g l) (ho : o + m ≤ l.length) (hm : m ≤ 8) :
    Calls Try.prog 69 #[.slice (some ⟨g, o, none⟩) m cap, .int .i64 n] w fun e w' => e = .returned (.tuple #[]) ∧ Row w' g (lay l o (enc m n)) ∧ Kept [g] w w' := by
  go_enter Try.func69, Try.ntmps69
  go_wp2_with fail
  go_loopw [7] (fun t7 wr => ∃ i : Int, 0 ≤ i ∧ i ≤ m ∧ t7 = .int .i64 i ∧ Row wr g (lay l o (enc i.toNat n)) ∧ Kept [g] w wr) (fun t8 _ => m - (Go.RowKit.intOf t8).toNat)
  case atStart => exact ⟨0, by omega, by omega, rfl, by simpa [enc, lay_nil] using hg, Kept.refl _ _⟩
  case round =>
    obtain ⟨i, hi0, hi1, rfl, hgr, hk⟩ := hrel
    by_cases hlt : i < m
    · have hlen : (lay l o (enc i.toNat n)).length = l.length := lay_len _ _ _ (by rw [enc_len]; omega)
      have c := row_cell hgr (o + i.toNat) (by rw [hlen]; omega)
      have f := row_frozen hgr (o + i.toNat)
      have h8 : (8 * i).toNat = 8 * i.toNat := by omega
      have hg' : Row (wr.setCell ⟨g, o + i.toNat, none⟩ (.int .u8 (n / 2 ^ (8 * i).toNat % 256))) g (lay l o (enc (i + 1).toNat n)) := by
        show (wr.setCell _ _).heap[g]? = _
        rw [heap_setCell_at _ hgr, row_set, h8, show (i + 1).toNat = i.toNat + 1 by omega, enc_succ, ← lay_step _ _ _ _ (by rw [enc_len]; omega), enc_len]
      have hk' : Kept [g] w (wr.setCell ⟨g, o + i.toNat, none⟩ (.int .u8 (n / 2 ^ (8 * i).toNat % 256))) := hk.setCell (by simp) _
      generalize (lay l o (enc i.toNat n)).getD (o + i.toNat) 0 = x at c
      clear hgr hk hg h8 hlen
      go_wp2_with fail
      go_roundw
      case rel => exact ⟨i + 1, by omega, by omega, rfl, hg', hk'⟩
      case measure => simp [Go.RowKit.intOf]; omega
    · obtain rfl : i = m := by omega
      rw [Int.toNat_natCast] at hgr
      go_wp2
      go_end0
      exact ⟨rfl, hgr, hk⟩

theorem number_any (w : World) (g : Nat) (i : Int) (h0 : 0 ≤ i) (h1 : i < 40) :
    Calls Try.prog 67 #[.slice (some ⟨g, 0, none⟩) 128 128, .int .i64 i] w fun e w' => e = .returned (.slice (some ⟨g, 9 + 2 * i.toNat, none⟩) 2 (119 - 2 * i.toNat)) ∧ w' = w := by
  have e1 : (9 + i * 2).toNat = 9 + 2 * i.toNat := by omega
  have e2 : (9 + i * 2 + 2).toNat - (9 + 2 * i.toNat) = 2 := by omega
  have e3 : 128 - (9 + 2 * i.toNat) = 119 - 2 * i.toNat := by omega
  go_enter Try.func67, Try.ntmps67
  go_wp2_with fail
  go_ret
  exact ⟨rfl, rfl⟩

/-- A body that panics, and defers nothing. -/
theorem died {P : Program} {fn : Func} {R : Ending → World → Prop} {a : Act} {w : World} {ch : List PanicEntry} (h : R (.panicked ch) w) (ha : a.defers = [] := by rfl) : bodyPost P fn R (.panic ch) a w := ⟨ha, h⟩
/-- What was panicked, for an answer of the disk's. -/
def thrown (e : Int) : List PanicEntry := [{ v := .iface 25 (.int .i64 e), recovered := false }]
theorem must_ok (w : World) :
    Calls Try.prog 65 #[.int .i64 0] w fun e w' => e = .returned (.tuple #[]) ∧ w' = w := by
  go_enter Try.func65, Try.ntmps65
  go_wp2
  go_end0
  exact ⟨rfl, rfl⟩
theorem must_dies (w : World) :
    Calls Try.prog 65 #[.int .i64 12] w fun e w' => e = .panicked (thrown 12) ∧ w' = w := by
  go_enter Try.func65, Try.ntmps65
  go_wp2
  refine died ?_
  exact ⟨rfl, rfl⟩
end Go.Proofs.Ytgjnlocokkjejaa
