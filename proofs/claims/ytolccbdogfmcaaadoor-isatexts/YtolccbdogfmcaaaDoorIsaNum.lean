/-
  THE DOCUMENT'S OWN number (donjonref15): what it reads of a decimal.
-/
import Derived.Test.YtolccbdogfmcaaaDoorIsaOk
import Derived.Test.YtolccbdogfmcaaaDoorIsaText
import Derived.Deep.CutBlock
namespace Go.Proofs.YtolccbdogfmcaaaDoor
open Go.RowKit
set_option maxRecDepth 8000
set_option linter.unusedSimpArgs false
set_option linter.unusedVariables false

theorem dig_len : ∀ (k n : Nat), n < 10 ^ (k + 1) → (Lib.decDigits n).length ≤ k + 1
  | 0, n, h => by rw [dig_one n (by omega)]; simp
  | k + 1, n, h => by
    by_cases hn : n < 10
    · rw [dig_one n hn]; simp
    · rw [dig_step n (by omega), dig_one (n % 10) (Nat.mod_lt _ (by decide)), List.length_append]
      have := dig_len k (n / 10) (by rw [Nat.pow_succ] at h; omega)
      simp
      omega
theorem dig_ne (n : Nat) : Lib.decDigits n ≠ [] := fun e => by
  have := dig_val n
  by_cases h : n < 10
  · rw [dig_one n h] at e; cases e
  · rw [dig_step n (by omega), dig_one (n % 10) (Nat.mod_lt _ (by decide))] at e
    simp at e
theorem dval_take (l : List UInt8) (k : Nat) (hk : k < l.length) : dval (l.take (k + 1)) = dval (l.take k) * 10 + ((l.getD k 0).toNat - 48) := by
  rw [List.take_add_one, List.getElem?_eq_getElem hk, List.getD_eq_getElem?_getD, List.getElem?_eq_getElem hk]
  show dval (l.take k ++ [l[k]]) = _
  rw [dval_snoc]
  rfl
theorem dval_le (l : List UInt8) (k : Nat) : dval (l.take k) ≤ dval l := by
  induction l generalizing k with
  | nil => simp
  | cons c r ih =>
    have gen : ∀ (l : List UInt8) (k acc : Nat), (l.take k).foldl (fun a c => a * 10 + (c.toNat - 48)) acc ≤ l.foldl (fun a c => a * 10 + (c.toNat - 48)) acc := by
      intro l
      induction l with
      | nil => intro k acc; simp
      | cons c r ih =>
        intro k acc
        cases k with
        | zero =>
          simp only [List.take_zero, List.foldl_nil, List.foldl_cons]
          have : ∀ (l : List UInt8) (acc : Nat), acc ≤ l.foldl (fun a c => a * 10 + (c.toNat - 48)) acc := by
            intro l
            induction l with
            | nil => intro acc; exact Nat.le_refl _
            | cons c r ih => intro acc; have := ih (acc * 10 + (c.toNat - 48)); simp only [List.foldl_cons]; omega
          have := this r (acc * 10 + (c.toNat - 48))
          omega
        | succ k => simp only [List.take_succ_cons, List.foldl_cons]; exact ih k _
    exact gen (c :: r) k 0
/-- What is left of a text behind its sign. -/
structure Sgn (s s1 : ByteArray) (neg : Bool) : Prop where
  size : s1.size ≤ s.size
  minus' : neg = true → ∀ n : Int, -10000000000 < n → n < 10000000000 → s = itoaB n → n < 0 ∧ s1.data.toList = Lib.decDigits n.natAbs
  plus' : neg = false → ∀ n : Int, -10000000000 < n → n < 10000000000 → s = itoaB n → 0 ≤ n ∧ s1.data.toList = Lib.decDigits n.toNat
theorem itoaB_data (n : Int) : (itoaB n).data.toList = Lib.itoa n := by
  show (Lib.itoa n).toArray.toList = _
  simp
theorem Sgn.same {s : ByteArray} (h : ∀ r, s.data.toList ≠ 45 :: r) : Sgn s s false := by
  refine ⟨Nat.le_refl _, fun q => (by cases q), fun _ n h0 h1 hn => ?_⟩
  have e : s.data.toList = Lib.itoa n := by rw [hn, itoaB_data]
  rw [itoa_def] at e
  by_cases hc : n < 0
  · rw [if_pos hc] at e
    exact absurd e (h _)
  · rw [if_neg hc] at e
    exact ⟨by omega, e⟩
theorem Sgn.minus {s s1 : ByteArray} (h : s.data.toList = 45 :: s1.data.toList) : Sgn s s1 true := by
  have e1 : s.data.toList.length = s.size := Array.length_toList
  have e2 : s1.data.toList.length = s1.size := Array.length_toList
  refine ⟨by rw [← e1, ← e2, h, List.length_cons]; omega, fun _ n h0 h1 hn => ?_, fun q => (by cases q)⟩
  have e : s.data.toList = Lib.itoa n := by rw [hn, itoaB_data]
  rw [itoa_def, h] at e
  by_cases hc : n < 0
  · rw [if_pos hc] at e
    exact ⟨hc, (List.cons.inj e).2⟩
  · rw [if_neg hc] at e
    have := dig_mem n.toNat 45 (e ▸ List.mem_cons_self)
    exact absurd this.1 (by decide)
/-- What number answers: a decimal is read as its number. -/
def NumR (s : ByteArray) (v : Int) (ok : Bool) : Prop := ∀ n : Int, -10000000000 < n → n < 10000000000 → s = itoaB n → ok = true ∧ v = n
theorem getI (s : ByteArray) (k : Nat) (hk : k < s.size) : ∃ b : UInt8, s.data.toList.getD k 0 = b ∧ s[k]'hk = b := by
  have h1 : k < s.data.toList.length := by rw [Array.length_toList]; exact hk
  refine ⟨s.data.toList[k], ?_, ?_⟩
  · rw [List.getD_eq_getElem?_getD, List.getElem?_eq_getElem h1]; rfl
  · rfl
/-- The digits of a number below ten thousand millions. -/
def Dg (s : ByteArray) (m : Nat) : Prop := m < 10000000000 ∧ s.data.toList = Lib.decDigits m
theorem dg_byte {s : ByteArray} {m k : Nat} (h : Dg s m) (hk : k < s.size) : 48 ≤ (s.data.toList.getD k 0).toNat ∧ (s.data.toList.getD k 0).toNat ≤ 57 := by
  refine dig_mem m _ ?_
  rw [← h.2, List.getD_eq_getElem?_getD, List.getElem?_eq_getElem (by rw [Array.length_toList]; exact hk)]
  exact List.getElem_mem _
theorem dg_step {s : ByteArray} {m k : Nat} {v : Int} (h : Dg s m) (hk : k < s.size) (hv : v = (dval (s.data.toList.take k) : Int)) : IntKind.i64.wrap (IntKind.i64.wrap (10 * v) + IntKind.u8.wrap (((s.data.toList.getD k 0).toNat : Int) - 48)) = (dval (s.data.toList.take (k + 1)) : Int) := by
  have h2 := dg_byte h hk
  have h3 := dval_take s.data.toList k (by rw [Array.length_toList]; exact hk)
  have h4 := dval_le s.data.toList k
  have h5 := dig_val m
  have h6 := h.1
  rw [← h.2] at h5
  rw [h3, hv]
  generalize (s.data.toList.getD k 0).toNat = b at *
  generalize dval (List.take k s.data.toList) = d at *
  generalize dval s.data.toList = d2 at *
  have q1 : IntKind.i64.wrap (10 * (d : Int)) = 10 * (d : Int) := by rw [IntKind.wrap_i64]; omega
  have q2 : IntKind.u8.wrap ((b : Int) - 48) = (b : Int) - 48 := by rw [IntKind.wrap_u8]; omega
  have q3 : IntKind.i64.wrap (10 * (d : Int) + ((b : Int) - 48)) = 10 * (d : Int) + ((b : Int) - 48) := by rw [IntKind.wrap_i64]; omega
  rw [q1, q2, q3]
  omega
theorem dg_end {s : ByteArray} {m : Nat} (h : Dg s m) : dval (s.data.toList.take s.size) = m := by
  rw [List.take_of_length_le (by rw [Array.length_toList]; exact Nat.le_refl _), h.2, dig_val]
theorem dg_len {s : ByteArray} {m : Nat} (h : Dg s m) : 1 ≤ s.size ∧ s.size ≤ 10 := by
  have h1 := dig_len 9 m (Nat.lt_of_lt_of_le h.1 (by decide))
  have h2 := dig_ne m
  rw [← h.2] at h1 h2
  have e1 : s.data.toList.length = s.size := Array.length_toList
  have h3 := List.length_pos_iff.2 h2
  omega
def NumOut (s : ByteArray) (e : Ending) : Prop := ∃ v ok, e = .returned (.tuple #[.int .i64 v, .bool ok]) ∧ NumR s v ok
theorem num_bad {s s1 : ByteArray} {neg : Bool} (h : Sgn s s1 neg) (hn : ∀ m : Nat, ¬ Dg s1 m) : NumR s 0 false := fun n h0 h1 e => by
  cases neg with
  | true => exact absurd (h.minus' rfl n h0 h1 e).2 (fun q => hn _ ⟨by omega, q⟩)
  | false => exact absurd (h.plus' rfl n h0 h1 e).2 (fun q => hn _ ⟨by omega, q⟩)
theorem num_pos {s s1 : ByteArray} {v : Int} (h : Sgn s s1 false) (hn : ∀ m : Nat, Dg s1 m → v = (m : Int)) : NumR s v true := fun n h0 h1 e => by
  obtain ⟨a, b⟩ := h.plus' rfl n h0 h1 e
  have := hn _ ⟨by omega, b⟩
  exact ⟨rfl, by omega⟩
theorem num_neg {s s1 : ByteArray} {v : Int} (h : Sgn s s1 true) (hn : ∀ m : Nat, Dg s1 m → v = (m : Int)) : NumR s (IntKind.i64.wrap (-v)) true := fun n h0 h1 e => by
  obtain ⟨a, b⟩ := h.minus' rfl n h0 h1 e
  have := hn _ ⟨by omega, b⟩
  refine ⟨rfl, ?_⟩
  rw [IntKind.wrap_i64]
  omega
set_option maxRecDepth 8000 in
set_option maxHeartbeats 4000000 in
theorem rinum_any (s : ByteArray) (hs : s.size ≤ 1000) (w : World) : Calls Tryd.prog 19 #[.string s] w fun e w' => NumOut s e ∧ w' = w := by
  go_enter Tryd.func19, Tryd.ntmps19
  by_cases hz : s.size = 0
  · have hsg : Sgn s s false := Sgn.same fun r e => by
      have e1 : s.data.toList.length = s.size := Array.length_toList
      rw [e, hz] at e1
      cases e1
    have hfin : NumR s 0 false := num_bad hsg fun m h => by have := dg_len h; omega
    clear hsg
    go_wp2_with fail
    go_loopw [5, 6] (fun t5 t6 wr => t5 = .int .i64 0 ∧ t6 = .int .i64 0 ∧ w = wr) (fun _ _ _ => 0)
    case atStart => exact ⟨rfl, rfl, rfl⟩
    case round =>
    obtain ⟨rfl, rfl, hwr⟩ := hrel
    subst hwr
    go_wp2_with fail
    refine bodyPost_ret (v := .tuple #[.int .i64 0, .bool false]) (by simp [results, Tryd.results19, go_sem]) rfl ?_
    exact ⟨⟨0, false, rfl, hfin⟩, rfl⟩
  have j0 : 0 < s.size := by omega
  have j1 : (0 : Int) < (s.size : Int) := by omega
  obtain ⟨b8, hb8, hb9⟩ := getI s 0 j0
  by_cases hm : b8 = 45
  · subst hm
    obtain ⟨s1, hs1⟩ : ∃ s1, s.extract 1 s.size = s1 := ⟨_, rfl⟩
    have hsg : Sgn s s1 true := Sgn.minus (by
      rw [← hs1, ByteArray.data_extract, Array.toList_extract, List.extract_eq_take_drop, List.take_of_length_le (by rw [List.length_drop, Array.length_toList]; exact Nat.le_refl _)]
      have hl : 0 < s.data.toList.length := by rw [Array.length_toList]; exact j0
      match hh : s.data.toList, hl with
      | c :: r, _ =>
        rw [hh] at hb8
        simp at hb8
        rw [hb8]
        rfl)
    have hz1 : s1.size ≤ 1000 := Nat.le_trans hsg.size hs
    have hq0 : ((s[0]'j0).toNat : Int) = 45 := by rw [hb9]; rfl
    clear hb8 hb9
    go_upto_region 4 with fail
    clear hs1 hq0 j1 j0 hz hs
    go_wp2_with fail
    go_loopw [5, 6] (fun t5 t6 wr => ∃ (k : Nat) (v : Int), k ≤ s1.size ∧ t6 = .int .i64 (k : Int) ∧ t5 = .int .i64 v ∧ (∀ m : Nat, Dg s1 m → v = (dval (s1.data.toList.take k) : Int)) ∧ w = wr) (fun _ t6 _ => s1.size - (Go.RowKit.intOf t6).toNat)
    case atStart => exact ⟨0, 0, by omega, rfl, rfl, fun m _ => (by simp [dval]), rfl⟩
    case round =>
    obtain ⟨k, v, hk, rfl, rfl, hv, hwr⟩ := hrel
    subst hwr
    by_cases hk2 : k < s1.size
    · have i1 : (k : Int) < (s1.size : Int) := by omega
      obtain ⟨b8, hb8, hidx⟩ := getI s1 k hk2
      have hd2 : ∀ m : Nat, Dg s1 m → 48 ≤ (b8.toNat : Int) ∧ (b8.toNat : Int) ≤ 57 := fun m h => by have := dg_byte h hk2; rw [hb8] at this; omega
      have hnx : ∀ m : Nat, Dg s1 m → IntKind.i64.wrap (IntKind.i64.wrap (10 * v) + (IntKind.u8.wrap ((b8.toNat : Int) - 48))) = (dval (s1.data.toList.take (k + 1)) : Int) := fun m h => by have := dg_step h hk2 (hv m h); rw [hb8] at this; exact this
      have bb : b8.toNat < 256 := b8.toNat_lt
      obtain ⟨b, hb⟩ : ∃ b : Int, (b8.toNat : Int) = b := ⟨_, rfl⟩
      replace hidx : ((s1[k]'hk2).toNat : Int) = b := by rw [hidx]; exact hb
      rw [hb] at hnx hd2
      have hb0 : 0 ≤ b ∧ b < 256 := by omega
      clear hb8 hb bb
      obtain ⟨u, hu⟩ : ∃ u, IntKind.i64.wrap (10 * v) = u := ⟨_, rfl⟩
      obtain ⟨q, hq⟩ : ∃ q, IntKind.u8.wrap (b - 48) = q := ⟨_, rfl⟩
      obtain ⟨r, hr⟩ : ∃ r, IntKind.i64.wrap (u + q) = r := ⟨_, rfl⟩
      rw [hu, hq, hr] at hnx
      have hq1 : IntKind.i64.wrap q = q := by rw [← hq, IntKind.wrap_i64, IntKind.wrap_u8]; omega
      by_cases c1 : b < 48
      · have hfin : NumR s 0 false := num_bad hsg fun m h => by have := hd2 m h; omega
        clear hnx hd2 hv
        go_wp2_with fail
        refine bodyPost_ret (v := .tuple #[.int .i64 0, .bool false]) (by simp [results, Tryd.results19, go_sem]) rfl ?_
        exact ⟨⟨0, false, rfl, hfin⟩, rfl⟩
      by_cases c2 : 57 < b
      · have hfin : NumR s 0 false := num_bad hsg fun m h => by have := hd2 m h; omega
        clear hnx hd2 hv
        go_wp2_with fail
        refine bodyPost_ret (v := .tuple #[.int .i64 0, .bool false]) (by simp [results, Tryd.results19, go_sem]) rfl ?_
        exact ⟨⟨0, false, rfl, hfin⟩, rfl⟩
      have hdm : s1.size - (k + 1) < s1.size - k := by omega
      clear hd2 hv hb0
      go_wp2_with fail
      exact ⟨⟨k + 1, r, by omega, by simp, rfl, hnx, trivial⟩, by simp [Go.RowKit.intOf]; omega⟩
    · have hk3 : k = s1.size := by omega
      have hv2 : ∀ m : Nat, Dg s1 m → v = (m : Int) := fun m h => by
        have h1 := hv m h
        rw [hk3, dg_end h] at h1
        exact h1
      have hlen : ∀ m : Nat, Dg s1 m → 1 ≤ s1.size ∧ s1.size ≤ 10 := fun m h => dg_len h
      have j1 : ¬ (k : Int) < (s1.size : Int) := by omega
      clear hv hk3
      by_cases c1 : s1.size < 1
      · have hfin : NumR s 0 false := num_bad hsg fun m h => by have := hlen m h; omega
        have j2 : (s1.size : Int) < 1 := by omega
        clear hv2 hlen c1
        go_wp2_with fail
        refine bodyPost_ret (v := .tuple #[.int .i64 0, .bool false]) (by simp [results, Tryd.results19, go_sem]) rfl ?_
        exact ⟨⟨0, false, rfl, hfin⟩, rfl⟩
      have j2 : ¬ (s1.size : Int) < 1 := by omega
      by_cases c2 : 10 < s1.size
      · have hfin : NumR s 0 false := num_bad hsg fun m h => by have := hlen m h; omega
        have j3 : 10 < (s1.size : Int) := by omega
        clear hv2 hlen c1 c2
        go_wp2_with fail
        refine bodyPost_ret (v := .tuple #[.int .i64 0, .bool false]) (by simp [results, Tryd.results19, go_sem]) rfl ?_
        exact ⟨⟨0, false, rfl, hfin⟩, rfl⟩
      have j3 : ¬ 10 < (s1.size : Int) := by omega
      clear c1 c2 hlen
      have hfin : NumR s (IntKind.i64.wrap (-v)) true := num_neg hsg hv2
      clear hv2
      obtain ⟨x, hx⟩ : ∃ x, IntKind.i64.wrap (-v) = x := ⟨_, rfl⟩
      rw [hx] at hfin
      go_wp2_with fail
      refine bodyPost_ret (v := .tuple #[.int .i64 x, .bool true]) (by simp [results, Tryd.results19, go_sem]) rfl ?_
      exact ⟨⟨x, true, rfl, hfin⟩, rfl⟩
  · have hsg : Sgn s s false := Sgn.same fun r e => by
      rw [e] at hb8
      exact hm hb8.symm
    have hq0 : (((s[0]'j0).toNat : Int) == 45) = false := by
      rw [hb9, beq_eq_false_iff_ne]
      intro q
      apply hm
      apply UInt8.toNat_inj.1
      have : (45 : UInt8).toNat = 45 := rfl
      omega
    have hz1 := hs
    clear hb8 hb9 hm
    go_upto_region 4 with fail
    clear hq0 j1 hz
    go_wp2_with fail
    go_loopw [5, 6] (fun t5 t6 wr => ∃ (k : Nat) (v : Int), k ≤ s.size ∧ t6 = .int .i64 (k : Int) ∧ t5 = .int .i64 v ∧ (∀ m : Nat, Dg s m → v = (dval (s.data.toList.take k) : Int)) ∧ w = wr) (fun _ t6 _ => s.size - (Go.RowKit.intOf t6).toNat)
    case atStart => exact ⟨0, 0, by omega, rfl, rfl, fun m _ => (by simp [dval]), rfl⟩
    case round =>
    obtain ⟨k, v, hk, rfl, rfl, hv, hwr⟩ := hrel
    subst hwr
    by_cases hk2 : k < s.size
    · have i1 : (k : Int) < (s.size : Int) := by omega
      obtain ⟨b8, hb8, hidx⟩ := getI s k hk2
      have hd2 : ∀ m : Nat, Dg s m → 48 ≤ (b8.toNat : Int) ∧ (b8.toNat : Int) ≤ 57 := fun m h => by have := dg_byte h hk2; rw [hb8] at this; omega
      have hnx : ∀ m : Nat, Dg s m → IntKind.i64.wrap (IntKind.i64.wrap (10 * v) + (IntKind.u8.wrap ((b8.toNat : Int) - 48))) = (dval (s.data.toList.take (k + 1)) : Int) := fun m h => by have := dg_step h hk2 (hv m h); rw [hb8] at this; exact this
      have bb : b8.toNat < 256 := b8.toNat_lt
      obtain ⟨b, hb⟩ : ∃ b : Int, (b8.toNat : Int) = b := ⟨_, rfl⟩
      replace hidx : ((s[k]'hk2).toNat : Int) = b := by rw [hidx]; exact hb
      rw [hb] at hnx hd2
      have hb0 : 0 ≤ b ∧ b < 256 := by omega
      clear hb8 hb bb
      obtain ⟨u, hu⟩ : ∃ u, IntKind.i64.wrap (10 * v) = u := ⟨_, rfl⟩
      obtain ⟨q, hq⟩ : ∃ q, IntKind.u8.wrap (b - 48) = q := ⟨_, rfl⟩
      obtain ⟨r, hr⟩ : ∃ r, IntKind.i64.wrap (u + q) = r := ⟨_, rfl⟩
      rw [hu, hq, hr] at hnx
      have hq1 : IntKind.i64.wrap q = q := by rw [← hq, IntKind.wrap_i64, IntKind.wrap_u8]; omega
      by_cases c1 : b < 48
      · have hfin : NumR s 0 false := num_bad hsg fun m h => by have := hd2 m h; omega
        clear hnx hd2 hv
        go_wp2_with fail
        refine bodyPost_ret (v := .tuple #[.int .i64 0, .bool false]) (by simp [results, Tryd.results19, go_sem]) rfl ?_
        exact ⟨⟨0, false, rfl, hfin⟩, rfl⟩
      by_cases c2 : 57 < b
      · have hfin : NumR s 0 false := num_bad hsg fun m h => by have := hd2 m h; omega
        clear hnx hd2 hv
        go_wp2_with fail
        refine bodyPost_ret (v := .tuple #[.int .i64 0, .bool false]) (by simp [results, Tryd.results19, go_sem]) rfl ?_
        exact ⟨⟨0, false, rfl, hfin⟩, rfl⟩
      have hdm : s.size - (k + 1) < s.size - k := by omega
      clear hd2 hv hb0
      go_wp2_with fail
      exact ⟨⟨k + 1, r, by omega, by simp, rfl, hnx, trivial⟩, by simp [Go.RowKit.intOf]; omega⟩
    · have hk3 : k = s.size := by omega
      have hv2 : ∀ m : Nat, Dg s m → v = (m : Int) := fun m h => by
        have h1 := hv m h
        rw [hk3, dg_end h] at h1
        exact h1
      have hlen : ∀ m : Nat, Dg s m → 1 ≤ s.size ∧ s.size ≤ 10 := fun m h => dg_len h
      have j1 : ¬ (k : Int) < (s.size : Int) := by omega
      clear hv hk3
      by_cases c1 : s.size < 1
      · have hfin : NumR s 0 false := num_bad hsg fun m h => by have := hlen m h; omega
        have j2 : (s.size : Int) < 1 := by omega
        clear hv2 hlen c1
        go_wp2_with fail
        refine bodyPost_ret (v := .tuple #[.int .i64 0, .bool false]) (by simp [results, Tryd.results19, go_sem]) rfl ?_
        exact ⟨⟨0, false, rfl, hfin⟩, rfl⟩
      have j2 : ¬ (s.size : Int) < 1 := by omega
      by_cases c2 : 10 < s.size
      · have hfin : NumR s 0 false := num_bad hsg fun m h => by have := hlen m h; omega
        have j3 : 10 < (s.size : Int) := by omega
        clear hv2 hlen c1 c2
        go_wp2_with fail
        refine bodyPost_ret (v := .tuple #[.int .i64 0, .bool false]) (by simp [results, Tryd.results19, go_sem]) rfl ?_
        exact ⟨⟨0, false, rfl, hfin⟩, rfl⟩
      have j3 : ¬ 10 < (s.size : Int) := by omega
      clear c1 c2 hlen
      have hfin : NumR s v true := num_pos hsg hv2
      clear hv2
      go_wp2_with fail
      refine bodyPost_ret (v := .tuple #[.int .i64 v, .bool true]) (by simp [results, Tryd.results19, go_sem]) rfl ?_
      exact ⟨⟨v, true, rfl, hfin⟩, rfl⟩
end Go.Proofs.YtolccbdogfmcaaaDoor
