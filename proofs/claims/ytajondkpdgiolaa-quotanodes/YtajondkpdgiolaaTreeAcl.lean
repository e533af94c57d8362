/-
  A LIST OF GRANTS SUCH AS MAY BE, OF NUMBERS: the law's Acl (donjonlaw11).
-/
import Derived.Test.YtajondkpdgiolaaTreeRows
import Derived.Test.YtajondkpdgiolaaTreeGrow
import Derived.Test.YtajondkpdgiolaaLAclPure
import Derived.Test.YtajondkpdgiolaaChr
namespace Go.Proofs.Ytajondkpdgiolaa
open Go.RowKit
set_option maxRecDepth 8000
set_option linter.unusedSimpArgs false
set_option linter.unusedVariables false

def hasTo (gs : List Gr) : Nat → List Int
  | 0 => [0, 0, 0, 0, 0]
  | i + 1 => (hasTo gs i).set ((gs.getD i zGr).m % 5).toNat (1 + wrap64 ((gs.getD i zGr).m.tdiv 5) % 7)
def hasAll (gs : List Gr) : List Int := hasTo gs (min gs.length 8)
def usr (k : Nat) : ByteArray := if k = 0 then starS else chr (96 + k)
def aclTo (h : List Int) : Nat → List Gr
  | 0 => []
  | k + 1 => if 0 < h.getD k 0 ∧ (aclTo h k).length < 4 then aclTo h k ++ [⟨usr k, h.getD k 0⟩] else aclTo h k
def aclOf (gs : List Gr) : List Gr := aclTo (hasAll gs) 5
theorem has_len (gs : List Gr) : ∀ i, (hasTo gs i).length = 5
  | 0 => rfl
  | i + 1 => by rw [hasTo, List.length_set, has_len gs i]
theorem has_val (gs : List Gr) : ∀ i, ∀ x ∈ hasTo gs i, 0 ≤ x ∧ x ≤ 7
  | 0, x, h => by simp [hasTo] at h; omega
  | i + 1, x, h => by
    rw [hasTo] at h
    rcases List.mem_or_eq_of_mem_set h with h | h
    · exact has_val gs i x h
    · omega
theorem acl_len (h : List Int) : ∀ k, (aclTo h k).length ≤ 4 ∧ (aclTo h k).length ≤ k
  | 0 => by simp [aclTo]
  | k + 1 => by
    have := acl_len h k
    rw [aclTo]
    split
    · simp; omega
    · omega
theorem acl_full (h : List Int) {k : Nat} (hk : (aclTo h k).length = 4) : ∀ j, aclTo h (k + j) = aclTo h k
  | 0 => rfl
  | j + 1 => by
    rw [← Nat.add_assoc, aclTo, acl_full h hk j, if_neg (by omega)]
theorem usr_lt : ∀ k : Fin 5, ∀ j : Fin 5, j.val < k.val → lt (usr j.val) (usr k.val) = true := by decide +kernel
theorem usr_may : ∀ k : Fin 5, may (usr k.val) = true ∧ lt ⟨#[]⟩ (usr k.val) = true := by decide +kernel
/-- Grants that stand by their users, from a number on. -/
theorem okAcl_app (a : ByteArray) : ∀ (l : List Gr) (g : Gr), okAcl a l = true → may g.u = true → (∀ x ∈ l, lt x.u g.u = true) → lt a g.u = true → 1 ≤ g.m → g.m ≤ 7 → okAcl a (l ++ [g]) = true
  | [], g, _, h2, _, h4, h5, h6 => by simp [okAcl, h2, h4, h5, h6]
  | x :: r, g, h1, h2, h3, h4, h5, h6 => by
    rw [List.cons_append, okAcl]
    rw [okAcl, Bool.and_eq_true] at h1
    rw [Bool.and_eq_true]
    refine ⟨h1.1, okAcl_app x.u r g h1.2 h2 (fun y hy => h3 y (List.mem_cons_of_mem _ hy)) (h3 x List.mem_cons_self) h5 h6⟩
theorem acl_good (h : List Int) (hv : ∀ x ∈ h, 0 ≤ x ∧ x ≤ 7) (hl : h.length = 5) : ∀ k, k ≤ 5 → okAcl ⟨#[]⟩ (aclTo h k) = true ∧ ∀ x ∈ aclTo h k, ∃ j, j < k ∧ x.u = usr j
  | 0, _ => ⟨rfl, fun x hx => by simp [aclTo] at hx⟩
  | k + 1, hk => by
    obtain ⟨h1, h2⟩ := acl_good h hv hl k (by omega)
    rw [aclTo]
    split
    · rename_i hp
      have hm : h.getD k 0 ∈ h := by
        rw [List.getD_eq_getElem?_getD, List.getElem?_eq_getElem (by omega)]
        exact List.getElem_mem _
      have := hv _ hm
      obtain ⟨u1, u2⟩ := usr_may ⟨k, by omega⟩
      refine ⟨okAcl_app _ _ _ h1 u1 (fun x hx => ?_) u2 (by show 1 ≤ h.getD k 0; omega) (by show h.getD k 0 ≤ 7; omega), fun x hx => ?_⟩
      · obtain ⟨j, hj, e⟩ := h2 x hx
        rw [e]
        exact usr_lt ⟨k, by omega⟩ ⟨j, by omega⟩ hj
      · rcases List.mem_append.1 hx with hx | hx
        · obtain ⟨j, hj, e⟩ := h2 x hx
          exact ⟨j, by omega, e⟩
        · rw [List.mem_singleton] at hx
          subst hx
          exact ⟨k, by omega, rfl⟩
    · exact ⟨h1, fun x hx => by obtain ⟨j, hj, e⟩ := h2 x hx; exact ⟨j, by omega, e⟩⟩
theorem aclOf_ok (gs : List Gr) : chkA (aclOf gs) = 0 := by
  have h := acl_good (hasAll gs) (has_val gs _) (has_len gs _) 5 (Nat.le_refl _)
  have h2 := (acl_len (hasAll gs) 5).1
  unfold chkA aclOf
  rw [if_neg (by omega), if_pos h.1]
theorem has_get (gs : List Gr) (i k : Nat) : 0 ≤ (hasTo gs i).getD k 0 ∧ (hasTo gs i).getD k 0 ≤ 7 := by
  rw [List.getD_eq_getElem?_getD]
  cases h : (hasTo gs i)[k]? with
  | none => simp
  | some x => exact has_val gs i x (List.mem_of_getElem? h)

def gcl (g : Gr) : List Value := [.string g.u, .int .i64 g.m]
theorem gr_okT : ElemOk 77 31 2 gcl :=
  ⟨Try.underlying31, by
    obtain ⟨i, h1, h2, h3, h4⟩ := info_of (e := 77) (z := .agg #[.string ⟨#[]⟩, .int .i64 0]) (sz := 2) (b := 24) (by kernel_rfl)
    exact ⟨i, _, _, h1, h2, h3, h4, rfl, by omega⟩, by omega, fun _ => rfl, fun x u hu => by simp [gcl] at hu; rcases hu with rfl | rfl <;> rfl⟩
abbrev OwnGr (w : World) (base : Nat) (v : Value) (l : List Gr) : Prop := OwnR 77 2 gcl w base v l
def ivals (h : List Int) : List Value := h.map fun x => .int .i64 x
set_option maxHeartbeats 400000 in
theorem w11_any (k m : Int) (h0 : 0 < m) (h1 : m < 1000000) (w : World) :
    Calls Try.prog 39 #[.int .i64 k, .int .i64 m] w fun e w' => e = .returned (.int .i64 (k % m)) ∧ w' = w := by
  have b1 := Int.lt_tmod_of_pos k h0
  have b2 := Int.tmod_lt_of_pos k h0
  have hm0 : ¬ m = 0 := by omega
  have hm1 : ¬ m = -1 := by omega
  by_cases hn : k.tmod m < 0
  · have e1 : k % m = k.tmod m + m := by
      rw [Int.tmod_eq_emod] at hn ⊢
      split at hn
      · have := Int.emod_nonneg k (by omega : m ≠ 0); omega
      · rename_i hc; rw [if_neg hc]; rw [Int.natAbs_of_nonneg (by omega)]; omega
    rw [e1]
    clear e1
    go_enter Try.func39, Try.ntmps39
    go_wp2
    go_ret
    exact ⟨rfl, rfl⟩
  · have e1 : k % m = k.tmod m := by
      rw [Int.tmod_eq_emod] at hn ⊢
      split
      · simp
      · rename_i hc
        rw [if_neg hc] at hn
        have := Int.emod_lt_of_pos k h0
        rw [Int.natAbs_of_nonneg (by omega)] at *
        omega
    rw [e1]
    clear e1
    go_enter Try.func39, Try.ntmps39
    go_wp2
    go_ret
    exact ⟨rfl, rfl⟩
set_option maxHeartbeats 1000000 in
theorem aclT_any (a : Option Addr) (cap : Nat) (gs : List Gr) (w : World) (h : GrsAt w a gs) :
    Calls Try.prog 26 #[.slice a gs.length cap] w fun e w' => ∃ v, e = .returned v ∧ OwnGr w' w.heap.size v (aclOf gs) ∧ Below w.heap.size w w' := by
  have hb0 := blk_alloc w #[.int .i64 0, .int .i64 0, .int .i64 0, .int .i64 0, .int .i64 0] 80
  have hB0 := alloc_below w (.cells #[.int .i64 0, .int .i64 0, .int .i64 0, .int .i64 0, .int .i64 0] 80)
  have hs0 := World.size_alloc w (.cells #[.int .i64 0, .int .i64 0, .int .i64 0, .int .i64 0, .int .i64 0] 80)
  obtain ⟨n, hn⟩ : ∃ n, gs.length = n := ⟨_, rfl⟩
  rw [hn]
  replace hn : Aside (gs.length = n) := hn
  obtain ⟨R, hR⟩ : ∃ R, aclOf gs = R := ⟨_, rfl⟩
  rw [hR]
  replace hR : Aside (aclOf gs = R) := hR
  go_enter Try.func26, Try.ntmps26
  go_wp2_with fail
  generalize w.alloc (.cells #[.int .i64 0, .int .i64 0, .int .i64 0, .int .i64 0, .int .i64 0] 80) = W0 at *
  go_loopw [4] (fun t4 wr => ∃ i : Nat, i ≤ n ∧ i ≤ 8 ∧ t4 = .int .i64 (i : Int) ∧ Blk wr w.heap.size (ivals (hasTo gs i)) ∧ Below w.heap.size w wr ∧ w.heap.size + 1 ≤ wr.heap.size) (fun t4 _ => n - (Go.RowKit.intOf t4).toNat)
  case atStart => exact ⟨0, by omega, by omega, rfl, hb0, hB0, by omega⟩
  case round =>
    clear hb0 hB0 hs0
    obtain ⟨i, hi, hi8, rfl, hb, hB, hz⟩ := hrel
    by_cases hlt : i < n ∧ i < 8
    · obtain ⟨g, hg⟩ : ∃ g, gs[i]? = some g := ⟨_, List.getElem?_eq_getElem (by rw [hn.out]; exact hlt.1)⟩
      obtain ⟨y, rfl, -, hc2⟩ := h.below hB i g hg
      have hgd : gs.getD i zGr = g := by rw [List.getD_eq_getElem?_getD, hg]; rfl
      have hst : hasTo gs (i + 1) = (hasTo gs i).set (g.m % 5).toNat (1 + wrap64 (g.m.tdiv 5) % 7) := by rw [hasTo, hgd]
      have i1 : (i : Int) < (n : Int) := by omega
      have i2 : (i : Int) < 8 := by omega
      have k1 := w11_any g.m 5 (by omega) (by omega)
      have k2 := w11_any (wrap64 (g.m.tdiv 5)) 7 (by omega) (by omega)
      obtain ⟨k, hk⟩ : ∃ k : Nat, g.m % 5 = (k : Int) := ⟨(g.m % 5).toNat, by omega⟩
      have hk5 : k < 5 := by omega
      have hkn : (g.m % 5).toNat = k := by omega
      obtain ⟨v, hv⟩ : ∃ v : Int, wrap64 (g.m.tdiv 5) % 7 = v := ⟨_, rfl⟩
      have hv7 : 0 ≤ v ∧ v < 7 := by omega
      rw [hk] at k1
      rw [hv] at k2
      rw [hkn, hv] at hst
      clear hk hkn hgd
      replace hv : Aside (wrap64 (g.m.tdiv 5) % 7 = v) := hv
      have hcell : ∃ u, wr.cell? ⟨w.heap.size, k, none⟩ = some u ∧ wr.frozen? ⟨w.heap.size, k, none⟩ = false := by
        obtain ⟨u, hu⟩ : ∃ u, (ivals (hasTo gs i))[k]? = some u := ⟨_, List.getElem?_eq_getElem (by simp [ivals, has_len]; omega)⟩
        exact ⟨u, hb k u hu⟩
      obtain ⟨u, hu, hfz⟩ := hcell
      have hb2 := hb.set k (.int .i64 (1 + v)) (by simp [ivals, has_len]; omega)
      have hB2 : Below w.heap.size w (wr.setCell ⟨w.heap.size, k, none⟩ (.int .i64 (1 + v))) := hB.setCell (p := ⟨w.heap.size, k, none⟩) (Nat.le_refl _) _
      have hz2 : w.heap.size + 1 ≤ (wr.setCell ⟨w.heap.size, k, none⟩ (.int .i64 (1 + v))).heap.size := by simpa using hz
      rw [show (ivals (hasTo gs i)).set k (.int .i64 (1 + v)) = ivals (hasTo gs (i + 1)) by rw [hst]; unfold ivals; rw [List.map_set]] at hb2
      clear hst hb
      go_wp2_with fail
      refine (k1 wr).mono ?_
      rintro e w' ⟨rfl, hw⟩
      replace hw := hw.symm
      subst hw
      go_wp2_with fail
      refine (k2 wr).mono ?_
      rintro e w' ⟨rfl, hw⟩
      replace hw := hw.symm
      subst hw
      go_wp2_with fail
      exact ⟨⟨i + 1, by omega, by omega, by simp, hb2, hB2, hz2⟩, by simp [Go.RowKit.intOf]; omega⟩
    · have hmin : min gs.length 8 = i := by rw [hn.out]; omega
      have hR5 : Aside (aclTo (hasTo gs i) 5 = R) := by rw [← hR.out, aclOf, hasAll, hmin]; exact rfl
      have hHv := has_get gs i
      have hHl := has_len gs i
      obtain ⟨H, hH⟩ : ∃ H, hasTo gs i = H := ⟨_, rfl⟩
      rw [hH] at hb hHv hHl hR5
      clear hH hmin
      have hcase : i = n ∨ (i < n ∧ i = 8) := by omega
      rcases hcase with rfl | ⟨hin, rfl⟩
      all_goals (
        go_wp2_with fail
        go_loopw [6, 7] (fun t6 t7 wq => ∃ k : Nat, k ≤ 5 ∧ t7 = .int .i64 (k : Int) ∧ OwnGr wq (w.heap.size + 1) t6 (aclTo H k) ∧ Below w.heap.size w wq ∧ w.heap.size + 1 ≤ wq.heap.size ∧ Blk wq w.heap.size (ivals H)) (fun _ t7 _ => 5 - (Go.RowKit.intOf t7).toNat)
        case atStart => exact ⟨0, by omega, rfl, OwnR.nil _ _ _ _ _, hB, hz, hb⟩
        case round =>
          clear hb hB hz
          obtain ⟨k, hk, rfl, ho, hB, hz, hb⟩ := hrel
          have hal := acl_len H k
          obtain ⟨ra, rc, hrv, hrle, -, -⟩ := OwnR.slice gr_okT.len ho
          subst hrv
          by_cases hk5 : k < 5
          · by_cases hl4 : (aclTo H k).length < 4
            · obtain ⟨x, hx⟩ : ∃ x, H.getD k 0 = x := ⟨_, rfl⟩
              have hxv := hHv k
              rw [hx] at hxv
              have hcell : wr.cell? ⟨w.heap.size, k, none⟩ = some (.int .i64 x) := by
                refine (hb k (.int .i64 x) ?_).1
                unfold ivals
                rw [List.getElem?_map, ← hx, List.getD_eq_getElem?_getD, List.getElem?_eq_getElem (by omega)]
                rfl
              have hst : aclTo H (k + 1) = if 0 < x ∧ (aclTo H k).length < 4 then aclTo H k ++ [⟨usr k, x⟩] else aclTo H k := by rw [aclTo, hx]
              generalize (aclTo H k).length = m at *
              have i1 : (k : Int) < 5 := by omega
              have i2 : (m : Int) < 4 := by omega
              by_cases hx0 : 0 < x
              · rw [if_pos ⟨hx0, hl4⟩] at hst
                clear hx
                by_cases hk0 : k = 0
                · subst hk0
                  obtain ⟨v2, W2, hap, ho2, hg2⟩ := OwnR.push gr_okT ho hz ⟨usr 0, x⟩ #[.string ⟨#[42]⟩, .int .i64 x] rfl 77 (by have := (acl_len H 0).1; omega)
                  have hb2 := ho.grew_below hz hg2
                  rw [← hst] at ho2
                  have hB2 := hB.trans (hb2.mono (by omega))
                  have hbk := hb.same (hb2.block _ (by omega))
                  have hz2 := Nat.le_trans hz hb2.size
                  clear hst hb
                  go_wp2_with (first | (refine wpList_append rfl _ _ rfl rfl rfl rfl hap ?_) | fail)
                  exact ⟨⟨1, by omega, by simp, ho2, hB2, hz2, hbk⟩, by simp [Go.RowKit.intOf]⟩
                · have hbt := chr_made wr (96 + k) (by omega)
                  have i3 : (0 : Int) < (k : Int) := by omega
                  have hu2 : usr k = chr (96 + k) := if_neg hk0
                  have e1 : IntKind.u8.wrap (97 + (k : Int) - 1) = 96 + (k : Int) := by rw [IntKind.wrap_u8]; omega
                  rw [show ((96 + k : Nat) : Int) = 96 + (k : Int) by omega] at hbt
                  have hcv := hbt.conv
                  have hza := alloc_below wr (.cells #[.int .u8 (96 + (k : Int))] 5)
                  have ho1 := ho.below hza
                  have hz1 := Nat.le_trans hz hza.size
                  obtain ⟨v2, W2, hap, ho2, hg2⟩ := OwnR.push gr_okT ho1 hz1 ⟨usr k, x⟩ #[.string (chr (96 + k)), .int .i64 x] (by rw [hu2]; rfl) 77 (by have := (acl_len H k).1; omega)
                  have hb2 := ho1.grew_below hz1 hg2
                  rw [← hst] at ho2
                  have hb3 : Below (w.heap.size + 1) wr W2 := (hza.mono hz).trans hb2
                  have hB2 := hB.trans (hb3.mono (by omega))
                  have hbk := hb.same (hb3.block _ (by omega))
                  have hz2 := Nat.le_trans hz hb3.size
                  have hcell2 := (hza.cell (World.block_lt_of_cell? _ _ hcell)).trans hcell
                  rw [World.size_alloc] at hap
                  clear hst hb hbt hza ho1 hz1 hg2 hb2 hb3
                  go_wp2_with (first | (refine wpList_append rfl _ _ rfl rfl rfl rfl hap ?_) | fail)
                  exact ⟨⟨k + 1, by omega, by simp, ho2, hB2, hz2, hbk⟩, by simp [Go.RowKit.intOf]; omega⟩
              · rw [if_neg (fun q => hx0 q.1)] at hst
                rw [← hst] at ho
                clear hst hx
                go_wp2_with fail
                exact ⟨⟨k + 1, by omega, by simp, ho, hB, hz, hb⟩, by simp [Go.RowKit.intOf]; omega⟩
            · have h4 : (aclTo H k).length = 4 := by omega
              have hfin := acl_full H h4 (5 - k)
              rw [show k + (5 - k) = 5 by omega] at hfin
              replace hfin : Aside (aclTo H 5 = aclTo H k) := hfin
              have i1 : (k : Int) < 5 := by omega
              generalize (aclTo H k).length = m at *
              have i2 : ¬ (m : Int) < 4 := by omega
              clear h4
              go_wp2_with fail
              go_ret
              exact ⟨_, rfl, by rw [← hR5.out, hfin.out]; exact ho.lower (Nat.le_succ _), hB⟩
          · obtain rfl : k = 5 := by omega
            go_wp2_with fail
            go_ret
            exact ⟨_, rfl, by rw [← hR5.out]; exact ho.lower (Nat.le_succ _), hB⟩)
end Go.Proofs.Ytajondkpdgiolaa
