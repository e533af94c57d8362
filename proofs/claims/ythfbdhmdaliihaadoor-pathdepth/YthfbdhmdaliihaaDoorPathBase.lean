/-
  NAMES AND PATHS AS BYTES, AND THE DOCUMENT'S OWN SMALL FUNCTIONS (donjonref7).
-/
import Derived.Test.YthfbdhmdaliihaaDoorProg
import Derived.WalkKit
import Derived.WalkLawsBesides
import Derived.Lib.Strings
import Derived.Lib.Bytealg
import Derived.KernelRfl
import Derived.ProofKit
import Derived.Below
namespace Go.Proofs.YthfbdhmdaliihaaDoor
open Go.RowKit
set_option linter.unusedSimpArgs false

def eqs (a b : ByteArray) : Bool := a.toList == b.toList
theorem toL (a : ByteArray) : a.toList = a.data.toList := Lib.toList_data a
theorem eqs_iff {a b : ByteArray} : eqs a b = true ↔ a = b := by
  unfold eqs
  rw [toL, toL]
  simp only [beq_iff_eq]
  exact ⟨fun h => by cases a; cases b; simpa using h, fun h => by rw [h]⟩
theorem eqs_self (a : ByteArray) : eqs a a = true := eqs_iff.2 rfl
theorem eqs_ne {a b : ByteArray} (h : a ≠ b) : eqs a b = false := by
  cases he : eqs a b
  · rfl
  · exact absurd (eqs_iff.1 he) h
def okB (c : UInt8) : Bool := (decide (97 ≤ c.toNat) && decide (c.toNat ≤ 122)) || (decide (48 ≤ c.toNat) && decide (c.toNat ≤ 57))
def name (u : ByteArray) : Bool := decide (1 ≤ u.size) && (decide (u.size ≤ 12) && u.data.toList.all okB)
def Aside (p : Prop) : Prop := p
theorem Aside.out {p : Prop} (h : Aside p) : p := h
theorem all_drop {u : ByteArray} {i : Nat} (h : i < u.size) : (u.data.toList.drop i).all okB = (okB (u[i]'h) && (u.data.toList.drop (i + 1)).all okB) := by
  have hi : i < u.data.toList.length := by rw [Array.length_toList]; exact h
  rw [List.drop_eq_getElem_cons hi, List.all_cons]
  rfl
set_option maxHeartbeats 2000000 in
theorem rname_any (u : ByteArray) (hu : u.size ≤ 9223372036854775807) (w : World) :
    Calls Tryd.prog 10 #[.string u] w fun e w' => e = .returned (.bool (name u)) ∧ w' = w := by
  obtain ⟨b, hb⟩ : ∃ b, name u = b := ⟨_, rfl⟩
  rw [hb]
  have hb0 : Aside (b = (decide (1 ≤ u.size) && (decide (u.size ≤ 12) && (u.data.toList.drop 0).all okB))) := by rw [Aside, ← hb]; rfl
  clear hb
  go_enter Tryd.func10, Tryd.ntmps10
  go_wp2
  go_loopw [3] (fun t wr => ∃ i : Nat, i ≤ u.size ∧ t = .int .i64 (i : Int) ∧ wr = w ∧ Aside (b = (decide (1 ≤ u.size) && (decide (u.size ≤ 12) && (u.data.toList.drop i).all okB)))) (fun t _ => u.size - (Go.RowKit.intOf t).toNat)
  case atStart => exact ⟨0, by omega, rfl, rfl, hb0⟩
  case round =>
    obtain ⟨i, hi, rfl, rfl, hall⟩ := hrel
    by_cases hlt : i < u.size
    · have hd := all_drop hlt
      obtain ⟨k, hk⟩ : ∃ k : Nat, (u[i]'hlt).toNat = k := ⟨_, rfl⟩
      rw [okB, hk] at hd
      by_cases hok : (97 ≤ k ∧ k ≤ 122) ∨ (48 ≤ k ∧ k ≤ 57)
      · have hn : Aside (b = (decide (1 ≤ u.size) && (decide (u.size ≤ 12) && (u.data.toList.drop (i + 1)).all okB))) := by
          refine hall.out.trans ?_
          rw [hd]
          rcases hok with ⟨h, h'⟩ | ⟨h, h'⟩ <;> simp [h, h']
        clear hall hd
        rcases hok with ⟨h3, h4⟩ | ⟨h3, h4⟩
        · go_wp2
          exact ⟨⟨i + 1, by omega, by simp, trivial, hn⟩, by simp [Go.RowKit.intOf]; omega⟩
        · go_wp2
          exact ⟨⟨i + 1, by omega, by simp, trivial, hn⟩, by simp [Go.RowKit.intOf]; omega⟩
      · obtain rfl : b = false := by
          refine hall.out.trans ?_
          rw [hd]
          rw [Bool.and_eq_false_iff]
          right
          rw [Bool.and_eq_false_iff]
          right
          rw [Bool.and_eq_false_iff]
          left
          simp only [Bool.or_eq_false_iff, Bool.and_eq_false_iff, decide_eq_false_iff_not]
          omega
        clear hall hd hb0
        by_cases h3 : k < 97
        · by_cases h4 : k < 48
          · go_wp2
            go_ret
            exact ⟨rfl, rfl⟩
          · have h5 : 57 < k := by omega
            go_wp2
            go_ret
            exact ⟨rfl, rfl⟩
        · have h5 : 122 < k := by omega
          go_wp2
          go_ret
          exact ⟨rfl, rfl⟩
    · have he : Aside (b = (decide (1 ≤ u.size) && decide (u.size ≤ 12))) := by
        refine hall.out.trans ?_
        rw [List.drop_eq_nil_of_le (by rw [Array.length_toList]; show u.size ≤ i; omega)]
        simp
      clear hall hb0
      by_cases h1 : 1 ≤ u.size
      · by_cases h2 : u.size ≤ 12
        · obtain rfl : b = true := by rw [he.out]; simp [h1, h2]
          go_wp2
          go_ret
          exact ⟨by simp; omega, rfl⟩
        · obtain rfl : b = false := by rw [he.out]; simp [h2]
          go_wp2
          go_ret
          exact ⟨by simp; omega, rfl⟩
      · obtain rfl : b = false := by rw [he.out]; simp [h1]
        go_wp2
        go_ret
        exact ⟨by simp; try omega, rfl⟩


/-- Where the last slash among the first i bytes stands; nought, if none does. -/
def slashTo (u : ByteArray) : Nat → Nat
  | 0 => 0
  | i + 1 => if u.data.toList.getD i 0 = 47 then i else slashTo u i
theorem slashTo_le (u : ByteArray) : ∀ i, slashTo u i ≤ i
  | 0 => Nat.le_refl _
  | i + 1 => by
    unfold slashTo
    split
    · omega
    · have := slashTo_le u i; omega
theorem byte_at {u : ByteArray} {i : Nat} (h : i < u.size) : u.data.toList.getD i 0 = u[i]'h := by
  have hi : i < u.data.toList.length := by rw [Array.length_toList]; exact h
  rw [List.getD_eq_getElem?_getD, List.getElem?_eq_getElem hi]
  rfl
set_option maxHeartbeats 1000000 in
theorem slash_any (u : ByteArray) (hu : u.size ≤ 9223372036854775806) (w : World) :
    Calls Tryd.prog 29 #[.string u] w fun e w' => e = .returned (.int .i64 (slashTo u u.size : Nat)) ∧ w' = w := by
  go_enter Tryd.func29, Tryd.ntmps29
  go_wp2
  go_loopw [3, 4] (fun t3 t4 wr => ∃ i : Nat, i ≤ u.size ∧ t4 = .int .i64 (i : Int) ∧ t3 = .int .i64 (slashTo u i : Nat) ∧ wr = w) (fun _ t4 _ => u.size - (Go.RowKit.intOf t4).toNat)
  case atStart => exact ⟨0, by omega, rfl, rfl, rfl⟩
  case round =>
    obtain ⟨i, hi, rfl, rfl, rfl⟩ := hrel
    by_cases hlt : i < u.size
    · have hb := byte_at hlt
      obtain ⟨k, hk⟩ : ∃ k : Nat, (u[i]'hlt).toNat = k := ⟨_, rfl⟩
      have hs : slashTo u (i + 1) = if k = 47 then i else slashTo u i := by
        show (if u.data.toList.getD i 0 = 47 then i else slashTo u i) = _
        rw [hb]
        by_cases h : k = 47
        · rw [if_pos h, if_pos (by apply UInt8.toNat_inj.1; rw [hk, h]; rfl)]
        · rw [if_neg h, if_neg (fun e => h (by rw [← hk, e]; rfl))]
      clear hb
      by_cases h47 : k = 47
      · rw [if_pos h47] at hs
        subst h47
        go_wp2
        exact ⟨⟨i + 1, by omega, by simp, by rw [hs], by simp⟩, by simp [Go.RowKit.intOf]; omega⟩
      · rw [if_neg h47] at hs
        have h2 : ((k : Int) == 47) = false := by simp; omega
        go_wp2
        exact ⟨⟨i + 1, by omega, by simp, by rw [hs], by simp⟩, by simp [Go.RowKit.intOf]; omega⟩
    · obtain rfl : i = u.size := by omega
      go_wp2
      go_ret
      exact ⟨rfl, rfl⟩

def parentOf (u : ByteArray) : ByteArray := if u.size < 2 then ⟨#[]⟩ else if slashTo u u.size = 0 then ⟨#[47]⟩ else u.extract 0 (slashTo u u.size)
def lastOf (u : ByteArray) : ByteArray := if u.size < 2 then ⟨#[]⟩ else u.extract (slashTo u u.size + 1) u.size
set_option maxHeartbeats 1000000 in
theorem rparent_any (u : ByteArray) (hu : u.size ≤ 1000000) (w : World) :
    Calls Tryd.prog 16 #[.string u] w fun e w' => e = .returned (.string (parentOf u)) ∧ w' = w := by
  have hs := slashTo_le u u.size
  have cs := slash_any u (by omega) w
  unfold parentOf
  obtain ⟨k, hk⟩ : ∃ k, slashTo u u.size = k := ⟨_, rfl⟩
  rw [hk] at hs cs ⊢
  by_cases h2 : u.size < 2
  · rw [if_pos h2]
    go_enter Tryd.func16, Tryd.ntmps16
    go_wp2
    go_ret
    exact ⟨rfl, rfl⟩
  · rw [if_neg h2]
    by_cases h0 : k = 0
    · rw [if_pos h0]
      subst h0
      go_enter Tryd.func16, Tryd.ntmps16
      go_wp2_with (go_at_call 29; refine cs.mono ?_; rintro e w' ⟨rfl, rfl⟩)
      go_ret
      exact ⟨rfl, rfl⟩
    · rw [if_neg h0]
      have h1 : ((k : Int) == 0) = false := by simp; omega
      go_enter Tryd.func16, Tryd.ntmps16
      go_wp2_with (go_at_call 29; refine cs.mono ?_; rintro e w' ⟨rfl, rfl⟩)
      go_ret
      exact ⟨rfl, rfl⟩

set_option maxHeartbeats 1000000 in
theorem rlast_any (u : ByteArray) (hu : u.size ≤ 1000000) (w : World) :
    Calls Tryd.prog 18 #[.string u] w fun e w' => e = .returned (.string (lastOf u)) ∧ w' = w := by
  have hs := slashTo_le u u.size
  have cs := slash_any u (by omega) w
  unfold lastOf
  obtain ⟨k, hk⟩ : ∃ k, slashTo u u.size = k := ⟨_, rfl⟩
  have hk2 : ¬ u.size < 2 → k < u.size := fun h => by
    obtain ⟨m, hm⟩ : ∃ m, u.size = m + 1 := ⟨u.size - 1, by omega⟩
    rw [← hk, hm]
    unfold slashTo
    split
    · omega
    · have := slashTo_le u m; omega
  rw [hk] at hs cs ⊢
  by_cases h2 : u.size < 2
  · rw [if_pos h2]
    go_enter Tryd.func18, Tryd.ntmps18
    go_wp2
    go_ret
    exact ⟨rfl, rfl⟩
  · rw [if_neg h2]
    have h3 := hk2 h2
    clear hk2
    go_enter Tryd.func18, Tryd.ntmps18
    go_wp2_with (go_at_call 29; refine cs.mono ?_; rintro e w' ⟨rfl, rfl⟩)
    go_ret
    exact ⟨rfl, rfl⟩

def slashS : ByteArray := ⟨#[47]⟩
def joinOf (p n : ByteArray) : ByteArray := if eqs p slashS = true then p ++ n else p ++ slashS ++ n
theorem eqs_lit {u : ByteArray} (b : Bool) (h : eqs u slashS = b) : (u.toList == [47]) = b := by
  have : slashS.toList = [47] := by rw [toL]; rfl
  unfold eqs at h
  rw [this] at h
  exact h
set_option maxHeartbeats 1000000 in
theorem rjoin_any (p n : ByteArray) (hp : p.size ≤ 1000000) (hn : n.size ≤ 1000000) (w : World) :
    Calls Tryd.prog 20 #[.string p, .string n] w fun e w' => e = .returned (.string (joinOf p n)) ∧ w' = w := by
  have b1 : ¬ 9223372036854775807 < p.size + n.size := by omega
  have b2 : ¬ 9223372036854775807 < p.size + 1 := by omega
  have b3 : ¬ 9223372036854775807 < p.size + 1 + n.size := by omega
  unfold joinOf
  cases h : eqs p slashS
  · have hl := eqs_lit false h
    have hl2 : ¬ p.toList = [47] := by simpa using hl
    rw [if_neg (by simp)]
    go_enter Tryd.func20, Tryd.ntmps20
    go_wp2
    go_ret
    exact ⟨rfl, rfl⟩
  · have hl := eqs_lit true h
    have hl2 : p.toList = [47] := by simpa using hl
    rw [if_pos rfl]
    go_enter Tryd.func20, Tryd.ntmps20
    go_wp2
    go_ret
    exact ⟨rfl, rfl⟩

def inOf (u v : ByteArray) : Bool := if eqs v slashS = true then decide (1 < u.size) else decide (v.size < u.size) && (eqs (u.extract 0 v.size) v && decide (u.data.toList.getD v.size 0 = 47))
set_option maxHeartbeats 1000000 in
theorem rin_any (u v : ByteArray) (hu : u.size ≤ 1000000) (hv : v.size ≤ 1000000) (w : World) :
    Calls Tryd.prog 22 #[.string u, .string v] w fun e w' => e = .returned (.bool (inOf u v)) ∧ w' = w := by
  unfold inOf
  cases h : eqs v slashS
  · have hl := eqs_lit false h
    have hl2 : ¬ v.toList = [47] := by simpa using hl
    rw [if_neg (by simp)]
    by_cases h1 : v.size < u.size
    · cases h2 : eqs (u.extract 0 v.size) v
      · have h3 : ((u.extract 0 v.size).toList == v.toList) = false := h2
        have h4 : ¬ (u.extract 0 v.size).toList = v.toList := by simpa using h3
        go_enter Tryd.func22, Tryd.ntmps22
        go_wp2
        go_ret
        exact ⟨by simp, rfl⟩
      · have h3 : ((u.extract 0 v.size).toList == v.toList) = true := h2
        have h4 : (u.extract 0 v.size).toList = v.toList := by simpa using h3
        have hb := byte_at h1
        obtain ⟨k, hk⟩ : ∃ k : Nat, (u[v.size]'h1).toNat = k := ⟨_, rfl⟩
        have hd : decide (u.data.toList.getD v.size 0 = 47) = decide (k = 47) := by
          rw [hb]
          have : (u[v.size]'h1 = 47) ↔ k = 47 := ⟨fun e => by rw [← hk, e]; rfl, fun e => by apply UInt8.toNat_inj.1; rw [hk, e]; rfl⟩
          simp [this]
        rw [hd]
        clear hd hb
        go_enter Tryd.func22, Tryd.ntmps22
        go_wp2
        go_ret
        have hbd : ((k : Int) == 47) = decide (k = 47) := by
          by_cases h9 : k = 47
          · simp [h9]
          · simp [h9]; omega
        exact ⟨by simp [h1, hbd], rfl⟩
    · have e : (decide (v.size < u.size) && (eqs (u.extract 0 v.size) v && decide (u.data.toList.getD v.size 0 = 47))) = false := by simp [h1]
      rw [e]
      go_enter Tryd.func22, Tryd.ntmps22
      go_wp2
      go_ret
      exact ⟨rfl, rfl⟩
  · have hl := eqs_lit true h
    have hl2 : v.toList = [47] := by simpa using hl
    rw [if_pos rfl]
    go_enter Tryd.func22, Tryd.ntmps22
    go_wp2
    go_ret
    exact ⟨by simp; try omega, rfl⟩
end Go.Proofs.YthfbdhmdaliihaaDoor
