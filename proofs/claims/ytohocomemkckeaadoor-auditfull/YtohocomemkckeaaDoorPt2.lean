/-
  PART 2 of what the claims of this seat lean on: QuotaRef AudRef LText AudText QuotaBase AudLaw AudOk LabMap LabKeys LabMapG AudSheet QuotaMap AudLog AudSeen Srt Srt2 Srt3 Srt4 Srt5 Srt6.
-/
import Derived.Deep.RegionHeld
import Derived.Deep.CutBlock
import Derived.Lib.ItoaLen
import Derived.WideKeyEntry
import Derived.DeepKeys4
import Derived.WalkArith
import Derived.Maps.RangeRun
import Derived.Sort.MapsRangeIn
import Derived.RangeFuncNested
import Derived.RangeFuncBound
import Derived.RangeFuncCalls
import Derived.RangeFuncLeaves
import Derived.Shelf.Abstract
import Derived.Shelf.RegionOpen
import Derived.WalkKit
import Derived.OwnWalkIn
import Derived.TacticsInMore
import Derived.LoopNIn
import Derived.LoopIn
import Derived.Sort.AssemblyPlain
import Derived.Sort.WalkA
import Derived.Test.YtohocomemkckeaaDoorPt1
/-! THE DOCUMENT'S OWN COUNTS: donjonref12's Nodes, May, Of, Add. -/
namespace Go.Proofs.YtohocomemkckeaaDoor
open Go.RowKit
set_option maxRecDepth 8000
set_option linter.unusedSimpArgs false
set_option linter.unusedVariables false

theorem cells_sub {W : World} {x : Addr} {cs : List Value} (h : CellsAt W x cs) (k : Nat) (hk : k ≠ 0) (ds : List Value) (hd : ∀ j v, ds[j]? = some v → cs[k + j]? = some v) : CellsAt W ⟨x.block, x.off + k, none⟩ ds := fun j v hv => by
  have h1 := h (k + j) v (hd j v hv)
  have e : (⟨x.block, x.off + k, none⟩ : Addr).add j = x.add (k + j) := by
    unfold Addr.add
    by_cases hj : j = 0
    · subst hj
      simp [hk]
    · rw [if_neg hj, if_neg (by omega)]
      simp [Nat.add_assoc]
  rw [e]
  exact h1
theorem node_by {W : World} {x : Addr} {p : PN} (h : CellsAt W x p.cs) : CellsAt W ⟨x.block, x.off + 12, none⟩ (lab4 p.n.by_) := cells_sub h 12 (by decide) _ fun j v hv => by
  match j, hv with
  | 0, hv => exact hv
  | 1, hv => exact hv
  | 2, hv => exact hv
  | 3, hv => exact hv
def mayQ (n : Nat) : Int := if 20 ≤ n then 17 else 0
/-- What Add does behind its loop: an element is laid between the first k and the others. -/
theorem ins_tail {α : Type} {e t : TypeId} {sz : Nat} {f : α → List Value} (hE : ElemOk e t sz f) (ht : Tryd.prog.elem t = e) (W : World) (a1 : Option Addr) (n c1 k : Nat) (m : List α) (x : α) (hn : m.length = n) (hk : k ≤ n) (hle : n ≤ c1) (hno : a1 = none → c1 = 0) (hn1 : n ≤ 100000) (hr : RowAt sz f W a1 m) :
    ∃ A1 A2 v2 W2 v3 W3 v4 W4, (∀ X, (Instr.slice t (.slice a1 n c1) none (some (.int .i64 (k : Int))) none).run Tryd.prog X = .ok (.slice A1 k c1) X) ∧ (∀ X, (Instr.slice t (.slice a1 n c1) (some (.int .i64 (k : Int))) none none).run Tryd.prog X = .ok (.slice A2 (n - k) (c1 - k)) X) ∧
      (Builtin.append_ #[t, t] t #[.slice none 0 0, .slice A1 k c1]).run Tryd.prog W = .ok v2 W2 ∧ (Builtin.append_ #[t, t] t #[v2, .slice (some ⟨W2.heap.size, 0, none⟩) 1 1]).run Tryd.prog (W2.alloc (.cells (f x).toArray e)) = .ok v3 W3 ∧
      (Builtin.append_ #[t, t] t #[v3, .slice A2 (n - k) (c1 - k)]).run Tryd.prog W3 = .ok v4 W4 ∧ Below W.heap.size W W2 ∧ OwnR e sz f W4 W.heap.size v4 (m.take k ++ x :: m.drop k) ∧ Below W.heap.size W W4 := by
  obtain ⟨A1, hs1, hn1', hr1'⟩ := rows_take hE ht a1 n c1 k hk hle
  obtain ⟨A2, hs2, hn2', hr2'⟩ := rows_drop hE ht a1 n c1 k hk hle
  have hlt3 : (m.take k).length = k := by rw [List.length_take, hn]; omega
  have hlt4 : (m.drop k).length = n - k := by rw [List.length_drop, hn]
  have ho0 : OwnR e sz f W W.heap.size (.slice none 0 0) [] := OwnR.nil _ _ _ _ _
  obtain ⟨v2, W2, hap2, ho2, hg2⟩ := OwnR.append_any hE ho0 (Nat.le_refl _) A1 k c1 (m.take k) hlt3 (hr1' _ _ hr) (fun q => by have := hno (hn1' q); omega) (by simp) (by omega)
  rw [List.nil_append] at ho2
  have hb2 := ho0.grew_below (Nat.le_refl _) hg2
  obtain ⟨v3, W3, hap3, ho3, hg3⟩ := OwnR.push hE ho2 hb2.size x (f x).toArray rfl e (by rw [hlt3]; omega)
  have hb3 := ho2.grew_below hb2.size hg3
  have hB3 := hb2.trans hb3
  obtain ⟨v4, W4, hap4, ho4, hg4⟩ := OwnR.append_any hE ho3 hB3.size A2 (n - k) (c1 - k) (m.drop k) hlt4 (hr2' _ _ hn (hr.below hE.len hB3)) (fun q => by have := hno (hn2' q); omega) (by simp [hlt3]; omega) (by omega)
  have hb4 := ho3.grew_below hB3.size hg4
  refine ⟨A1, A2, v2, W2, v3, W3, v4, W4, hs1, hs2, hap2, hap3, hap4, hb2, ?_, hB3.trans hb4⟩
  simpa using ho4
end Go.Proofs.YtohocomemkckeaaDoor

/-! THE DOCUMENT'S OWN LOG (donjonref14): All, Full, May, Seen, Chain, Add. Rows of entries. -/
namespace Go.Proofs.YtohocomemkckeaaDoor
open Go.RowKit
set_option maxRecDepth 8000
set_option linter.unusedSimpArgs false
set_option linter.unusedVariables false

theorem ent_one (x : Ent) : ∀ u ∈ ecs x, u.oneCell' = true := fun u hu => by
  simp [ecs] at hu
  rcases hu with rfl | rfl | rfl | rfl | rfl | rfl | rfl | rfl | rfl <;> rfl
theorem ent_ok : ElemOk 26 34 9 ecs :=
  ⟨Tryd.underlying34, by
    obtain ⟨i, h1, h2, h3, h4⟩ := info_of (e := 26) (z := .agg #[.int .i64 0, .int .i64 0, .int .i64 0, .int .i64 0, .int .i64 0, .string ⟨#[]⟩, .int .i64 0, .string ⟨#[]⟩, .int .i64 0]) (sz := 9) (b := 88) (by kernel_rfl)
    exact ⟨i, _, _, h1, h2, h3, h4, rfl, by omega⟩, by omega, fun _ => rfl, ent_one⟩
abbrev RowE (w : World) (a : Option Addr) (l : List Ent) : Prop := RowAt 9 ecs w a l
abbrev OwnE (w : World) (b : Nat) (v : Value) (l : List Ent) : Prop := OwnR 26 9 ecs w b v l
theorem ent_lab {W : World} {x : Addr} {p : Ent} (h : CellsAt W x (ecs p)) : CellsAt W ⟨x.block, x.off + 1, none⟩ (lab4 p.label) := cells_sub h 1 (by decide) _ fun j v hv => by
  match j, hv with
  | 0, hv => exact hv
  | 1, hv => exact hv
  | 2, hv => exact hv
  | 3, hv => exact hv
theorem ebox_lab {W : World} {g : Nat} {p : Ent} (h : BlkL g (ecs p) W) : CellsAt W ⟨g, 1, none⟩ (lab4 p.label) := fun j v hv => by
  have e : (⟨g, 1, none⟩ : Addr).add j = ⟨g, 1 + j, none⟩ := by
    unfold Addr.add
    split <;> simp_all
  rw [e]
  refine (h.1 (1 + j) v ?_).1
  match j, hv with
  | 0, hv => exact hv
  | 1, hv => exact hv
  | 2, hv => exact hv
  | 3, hv => exact hv
theorem filter_stepE {l : List Ent} {p : Ent → Bool} {i : Nat} {x : Ent} (h : l[i]? = some x) : (l.take (i + 1)).filter p = (l.take i).filter p ++ (if p x = true then [x] else []) := by
  rw [List.take_add_one, h, List.filter_append]
  cases hp : p x <;> simp [hp]
theorem filter_lenE (l : List Ent) (p : Ent → Bool) (i : Nat) : ((l.take i).filter p).length ≤ l.length := by
  have h1 := List.length_filter_le p (l.take i)
  have h2 : (l.take i).length ≤ l.length := by rw [List.length_take]; omega
  omega
--MORE
theorem fold_take {α : Type} {l : List Ent} {f : α → Ent → α} {a : α} {i : Nat} {x : Ent} (h : l[i]? = some x) : (l.take (i + 1)).foldl f a = f ((l.take i).foldl f a) x := by
  rw [List.take_add_one, h, List.foldl_append]
  rfl
theorem foldA_lt (l : List Ent) (i : Nat) : (l.take i).foldl (fun h e => chain h (encE e)) (ofN 0 []) < 18446744073709551616 := by
  have : ∀ (xs : List Ent) (h : Nat), h < 18446744073709551616 → xs.foldl (fun h e => chain h (encE e)) h < 18446744073709551616 := fun xs => by
    induction xs with
    | nil => exact fun h hh => hh
    | cons x r ih => exact fun h hh => ih _ (chain_ltA _ _ hh)
  exact this _ _ (chain_ltA _ _ (chain_ltA _ _ (by decide)))
theorem enc_len {e : Ent} (h : e.Small) : (encE e).length ≤ 1000000 := by
  have h1 := h.u
  have h2 := h.o
  unfold encE encT encL encW
  simp [saltTo_len]
  omega
theorem insE_tail (W : World) (a1 : Option Addr) (n c1 k : Nat) (m : List Ent) (x : Ent) (hn : m.length = n) (hk : k ≤ n) (hle : n ≤ c1) (hno : a1 = none → c1 = 0) (hn1 : n ≤ 100000) (hr : RowE W a1 m) :
    ∃ A1 A2 v2 W2 v3 W3 v4 W4, (∀ X, (Instr.slice 34 (.slice a1 n c1) none (some (.int .i64 (k : Int))) none).run Tryd.prog X = .ok (.slice A1 k c1) X) ∧ (∀ X, (Instr.slice 34 (.slice a1 n c1) (some (.int .i64 (k : Int))) none none).run Tryd.prog X = .ok (.slice A2 (n - k) (c1 - k)) X) ∧
      (Builtin.append_ #[34, 34] 34 #[.slice none 0 0, .slice A1 k c1]).run Tryd.prog W = .ok v2 W2 ∧ (Builtin.append_ #[34, 34] 34 #[v2, .slice (some ⟨W2.heap.size, 0, none⟩) 1 1]).run Tryd.prog (W2.alloc (.cells (ecs x).toArray 26)) = .ok v3 W3 ∧
      (Builtin.append_ #[34, 34] 34 #[v3, .slice A2 (n - k) (c1 - k)]).run Tryd.prog W3 = .ok v4 W4 ∧ Below W.heap.size W W2 ∧ OwnE W4 W.heap.size v4 (m.take k ++ x :: m.drop k) ∧ Below W.heap.size W W4 := by
  obtain ⟨A1, hs1, hn1', hr1'⟩ := rows_take ent_ok (by kernel_rfl) a1 n c1 k hk hle
  obtain ⟨A2, hs2, hn2', hr2'⟩ := rows_drop ent_ok (by kernel_rfl) a1 n c1 k hk hle
  have hlt3 : (m.take k).length = k := by rw [List.length_take, hn]; omega
  have hlt4 : (m.drop k).length = n - k := by rw [List.length_drop, hn]
  have ho0 : OwnE W W.heap.size (.slice none 0 0) [] := OwnR.nil _ _ _ _ _
  obtain ⟨v2, W2, hap2, ho2, hg2⟩ := OwnR.append_any ent_ok ho0 (Nat.le_refl _) A1 k c1 (m.take k) hlt3 (hr1' _ _ hr) (fun q => by have := hno (hn1' q); omega) (by simp) (by omega)
  rw [List.nil_append] at ho2
  have hb2 := ho0.grew_below (Nat.le_refl _) hg2
  obtain ⟨v3, W3, hap3, ho3, hg3⟩ := OwnR.push ent_ok ho2 hb2.size x (ecs x).toArray rfl 26 (by rw [hlt3]; omega)
  have hb3 := ho2.grew_below hb2.size hg3
  have hB3 := hb2.trans hb3
  obtain ⟨v4, W4, hap4, ho4, hg4⟩ := OwnR.append_any ent_ok ho3 hB3.size A2 (n - k) (c1 - k) (m.drop k) hlt4 (hr2' _ _ hn (hr.below ent_ok.len hB3)) (fun q => by have := hno (hn2' q); omega) (by simp [hlt3]; omega) (by omega)
  have hb4 := ho3.grew_below hB3.size hg4
  refine ⟨A1, A2, v2, W2, v3, W3, v4, W4, hs1, hs2, hap2, hap3, hap4, hb2, ?_, hB3.trans hb4⟩
  simpa using ho4
theorem set_seq (W : World) (g : Nat) (e : Ent) (s : Int) (h : BlkL g (ecs e) W) : BlkL g (ecs { e with seq := s }) (W.setCell ⟨g, 0, none⟩ (.int .i64 s)) := by
  have h1 := h.1.set 0 (.int .i64 s) (by simp [ecs])
  exact ⟨h1, h1.lt rfl⟩
end Go.Proofs.YtohocomemkckeaaDoor

/-! NUMBERS AND LABELS AS TEXTS, for the stages behind the fourth: digits (donjonref14), decimal and Text (donjonref4). -/
namespace Go.Proofs.YtohocomemkckeaaDoor
open Go.RowKit
set_option maxRecDepth 8000
set_option linter.unusedSimpArgs false
set_option linter.unusedVariables false

def itoaB (n : Int) : ByteArray := ⟨(Lib.itoa n).toArray⟩
def dgB (n : Nat) : ByteArray := ⟨(Lib.decDigits n).toArray⟩
theorem app_listB (x y : List UInt8) : (⟨x.toArray⟩ : ByteArray) ++ ⟨y.toArray⟩ = ⟨(x ++ y).toArray⟩ := by
  apply ByteArray.ext
  simp [ByteArray.data_append]
theorem dg_low (n : Nat) (h : n < 10) : dgB n = chr (48 + n) := by
  unfold dgB
  rw [Lib.decDigits, dif_pos h]
  rfl
theorem dg_next (n : Nat) (h : 10 ≤ n) : dgB n = dgB (n / 10) ++ dgB (n % 10) := by
  unfold dgB
  rw [app_listB]
  congr 2
  have h2 : n % 10 < 10 := Nat.mod_lt _ (by decide)
  rw [Lib.decDigits, dif_neg (by omega), Lib.decDigits.eq_def (n % 10), dif_pos h2]
theorem dg_size : ∀ k n : Nat, n < 10 ^ (k + 1) → (dgB n).size ≤ k + 1
  | 0, n, h => by
    rw [dg_low n (by omega)]
    exact Nat.le_refl _
  | k + 1, n, h => by
    by_cases h10 : n < 10
    · rw [dg_low n h10]
      show 1 ≤ _
      omega
    · rw [dg_next n (by omega), ByteArray.size_append, dg_low (n % 10) (Nat.mod_lt _ (by decide))]
      have := dg_size k (n / 10) (by rw [Nat.pow_succ] at h; omega)
      show _ + 1 ≤ _
      omega
theorem dg_20 {n : Nat} (h : n < 18446744073709551616) : (dgB n).size ≤ 20 := dg_size 19 n (Nat.lt_trans h (by decide))
theorem itoa_pos (n : Nat) : itoaB (n : Int) = dgB n := by
  unfold itoaB dgB Lib.itoa
  rw [if_neg (by omega), Int.toNat_natCast]
theorem itoa_neg (n : Nat) (h : 0 < n) : itoaB (-(n : Int)) = (⟨#[45]⟩ : ByteArray) ++ dgB n := by
  unfold itoaB dgB Lib.itoa
  rw [if_pos (by omega), Int.natAbs_neg, Int.natAbs_natCast]
  exact (app_listB [45] _).symm
theorem itoaB_size (n : Int) (h0 : -9223372036854775808 ≤ n) (h1 : n ≤ 9223372036854775807) : (itoaB n).size ≤ 21 := by
  have := Lib.itoa_length_le n h0 h1
  unfold itoaB
  show (Lib.itoa n).toArray.size ≤ 21
  simpa using this
/-- A label's text. -/
def ltextB (l : Lab) : ByteArray := itoaB l.s ++ ⟨#[46]⟩ ++ itoaB l.c ++ ⟨#[46]⟩ ++ itoaB l.i ++ ⟨#[46]⟩ ++ itoaB l.k
theorem ltext_size {l : Lab} (h : GL l) : (ltextB l).size ≤ 100 := by
  obtain ⟨a, b, c, d, e, f, g, i⟩ := h
  have h1 := itoaB_size l.s (by omega) (by omega)
  have h2 := itoaB_size l.c (by omega) (by omega)
  have h3 := itoaB_size l.i (by omega) (by omega)
  have h4 := itoaB_size l.k (by omega) (by omega)
  unfold ltextB
  simp only [ByteArray.size_append]
  show _ + 1 + _ + 1 + _ + 1 + _ ≤ _
  omega
end Go.Proofs.YtohocomemkckeaaDoor

/-! AN ENTRY'S TEXT: words of errors and of verbs; the document's own Text (donjonref14). Written by mk_audtext.py. -/
namespace Go.Proofs.YtohocomemkckeaaDoor
open Go.RowKit
set_option maxRecDepth 8000
set_option linter.unusedSimpArgs false
set_option linter.unusedVariables false

def wArgs (v : Int) : ByteArray := if v = 1 then ⟨#[97, 114, 103]⟩ else if v = 2 then ⟨#[110, 111, 110, 101]⟩ else if v = 3 then ⟨#[107, 105, 110, 100]⟩ else if v = 4 then ⟨#[109, 97, 110, 121]⟩ else if v = 5 then ⟨#[108, 111, 110, 103]⟩ else if v = 6 then ⟨#[119, 111, 114, 100]⟩ else if v = 7 then ⟨#[105, 115]⟩ else if v = 8 then ⟨#[99, 117, 116]⟩ else if v = 9 then ⟨#[109, 111, 114, 101]⟩ else ⟨#[101, 114, 114, 111, 114]⟩
theorem wArgs_size (v : Int) : (wArgs v).size ≤ 10 := by
  unfold wArgs
  repeat (first | (split; decide) | decide)
set_option maxHeartbeats 2000000 in
theorem wArgs_any (v : Int) (w : World) : Calls Tryd.prog 55 #[.int .i64 v] w fun e w' => e = .returned (.string (wArgs v)) ∧ w' = w := by
  unfold wArgs
  by_cases h1 : v = 1
  · subst h1
    simp only [if_true, if_false, show ((1 : Int) = 1) = True from by simp]
    go_enter Tryd.func55, Tryd.ntmps55
    go_wp2_with fail
    go_ret
    exact ⟨rfl, rfl⟩
  by_cases h2 : v = 2
  · subst h2
    simp only [if_true, if_false, show ((2 : Int) = 1) = False from by simp, show ((2 : Int) = 2) = True from by simp]
    go_enter Tryd.func55, Tryd.ntmps55
    go_wp2_with fail
    go_ret
    exact ⟨rfl, rfl⟩
  by_cases h3 : v = 3
  · subst h3
    simp only [if_true, if_false, show ((3 : Int) = 1) = False from by simp, show ((3 : Int) = 2) = False from by simp, show ((3 : Int) = 3) = True from by simp]
    go_enter Tryd.func55, Tryd.ntmps55
    go_wp2_with fail
    go_ret
    exact ⟨rfl, rfl⟩
  by_cases h4 : v = 4
  · subst h4
    simp only [if_true, if_false, show ((4 : Int) = 1) = False from by simp, show ((4 : Int) = 2) = False from by simp, show ((4 : Int) = 3) = False from by simp, show ((4 : Int) = 4) = True from by simp]
    go_enter Tryd.func55, Tryd.ntmps55
    go_wp2_with fail
    go_ret
    exact ⟨rfl, rfl⟩
  by_cases h5 : v = 5
  · subst h5
    simp only [if_true, if_false, show ((5 : Int) = 1) = False from by simp, show ((5 : Int) = 2) = False from by simp, show ((5 : Int) = 3) = False from by simp, show ((5 : Int) = 4) = False from by simp, show ((5 : Int) = 5) = True from by simp]
    go_enter Tryd.func55, Tryd.ntmps55
    go_wp2_with fail
    go_ret
    exact ⟨rfl, rfl⟩
  by_cases h6 : v = 6
  · subst h6
    simp only [if_true, if_false, show ((6 : Int) = 1) = False from by simp, show ((6 : Int) = 2) = False from by simp, show ((6 : Int) = 3) = False from by simp, show ((6 : Int) = 4) = False from by simp, show ((6 : Int) = 5) = False from by simp, show ((6 : Int) = 6) = True from by simp]
    go_enter Tryd.func55, Tryd.ntmps55
    go_wp2_with fail
    go_ret
    exact ⟨rfl, rfl⟩
  by_cases h7 : v = 7
  · subst h7
    simp only [if_true, if_false, show ((7 : Int) = 1) = False from by simp, show ((7 : Int) = 2) = False from by simp, show ((7 : Int) = 3) = False from by simp, show ((7 : Int) = 4) = False from by simp, show ((7 : Int) = 5) = False from by simp, show ((7 : Int) = 6) = False from by simp, show ((7 : Int) = 7) = True from by simp]
    go_enter Tryd.func55, Tryd.ntmps55
    go_wp2_with fail
    go_ret
    exact ⟨rfl, rfl⟩
  by_cases h8 : v = 8
  · subst h8
    simp only [if_true, if_false, show ((8 : Int) = 1) = False from by simp, show ((8 : Int) = 2) = False from by simp, show ((8 : Int) = 3) = False from by simp, show ((8 : Int) = 4) = False from by simp, show ((8 : Int) = 5) = False from by simp, show ((8 : Int) = 6) = False from by simp, show ((8 : Int) = 7) = False from by simp, show ((8 : Int) = 8) = True from by simp]
    go_enter Tryd.func55, Tryd.ntmps55
    go_wp2_with fail
    go_ret
    exact ⟨rfl, rfl⟩
  by_cases h9 : v = 9
  · subst h9
    simp only [if_true, if_false, show ((9 : Int) = 1) = False from by simp, show ((9 : Int) = 2) = False from by simp, show ((9 : Int) = 3) = False from by simp, show ((9 : Int) = 4) = False from by simp, show ((9 : Int) = 5) = False from by simp, show ((9 : Int) = 6) = False from by simp, show ((9 : Int) = 7) = False from by simp, show ((9 : Int) = 8) = False from by simp, show ((9 : Int) = 9) = True from by simp]
    go_enter Tryd.func55, Tryd.ntmps55
    go_wp2_with fail
    go_ret
    exact ⟨rfl, rfl⟩
  rw [if_neg h1, if_neg h2, if_neg h3, if_neg h4, if_neg h5, if_neg h6, if_neg h7, if_neg h8, if_neg h9]
  have g1 : (v == 1) = false := by simpa using h1
  have g2 : (v == 2) = false := by simpa using h2
  have g3 : (v == 3) = false := by simpa using h3
  have g4 : (v == 4) = false := by simpa using h4
  have g5 : (v == 5) = false := by simpa using h5
  have g6 : (v == 6) = false := by simpa using h6
  have g7 : (v == 7) = false := by simpa using h7
  have g8 : (v == 8) = false := by simpa using h8
  have g9 : (v == 9) = false := by simpa using h9
  go_enter Tryd.func55, Tryd.ntmps55
  go_wp2_with fail
  go_ret
  exact ⟨rfl, rfl⟩
def wSys (v : Int) : ByteArray := if v = 11 then ⟨#[98, 97, 100]⟩ else if v = 12 then ⟨#[100, 101, 97, 100]⟩ else if v = 13 then ⟨#[102, 117, 108, 108]⟩ else if v = 14 then ⟨#[98, 117, 115, 121]⟩ else if v = 15 then ⟨#[108, 97, 98, 101, 108]⟩ else if v = 16 then ⟨#[97, 99, 108]⟩ else if v = 17 then ⟨#[113, 117, 111, 116, 97]⟩ else if v = 18 then ⟨#[108, 111, 103]⟩ else if v = 19 then ⟨#[114, 117, 108, 101]⟩ else if v = 20 then ⟨#[108, 111, 103, 105, 110]⟩ else if v = 21 then ⟨#[110, 97, 109, 101]⟩ else ⟨#[101, 114, 114, 111, 114]⟩
theorem wSys_size (v : Int) : (wSys v).size ≤ 10 := by
  unfold wSys
  repeat (first | (split; decide) | decide)
set_option maxHeartbeats 2000000 in
theorem wSys_any (v : Int) (w : World) : Calls Tryd.prog 56 #[.int .i64 v] w fun e w' => e = .returned (.string (wSys v)) ∧ w' = w := by
  unfold wSys
  by_cases h11 : v = 11
  · subst h11
    simp only [if_true, if_false, show ((11 : Int) = 11) = True from by simp]
    go_enter Tryd.func56, Tryd.ntmps56
    go_wp2_with fail
    go_ret
    exact ⟨rfl, rfl⟩
  by_cases h12 : v = 12
  · subst h12
    simp only [if_true, if_false, show ((12 : Int) = 11) = False from by simp, show ((12 : Int) = 12) = True from by simp]
    go_enter Tryd.func56, Tryd.ntmps56
    go_wp2_with fail
    go_ret
    exact ⟨rfl, rfl⟩
  by_cases h13 : v = 13
  · subst h13
    simp only [if_true, if_false, show ((13 : Int) = 11) = False from by simp, show ((13 : Int) = 12) = False from by simp, show ((13 : Int) = 13) = True from by simp]
    go_enter Tryd.func56, Tryd.ntmps56
    go_wp2_with fail
    go_ret
    exact ⟨rfl, rfl⟩
  by_cases h14 : v = 14
  · subst h14
    simp only [if_true, if_false, show ((14 : Int) = 11) = False from by simp, show ((14 : Int) = 12) = False from by simp, show ((14 : Int) = 13) = False from by simp, show ((14 : Int) = 14) = True from by simp]
    go_enter Tryd.func56, Tryd.ntmps56
    go_wp2_with fail
    go_ret
    exact ⟨rfl, rfl⟩
  by_cases h15 : v = 15
  · subst h15
    simp only [if_true, if_false, show ((15 : Int) = 11) = False from by simp, show ((15 : Int) = 12) = False from by simp, show ((15 : Int) = 13) = False from by simp, show ((15 : Int) = 14) = False from by simp, show ((15 : Int) = 15) = True from by simp]
    go_enter Tryd.func56, Tryd.ntmps56
    go_wp2_with fail
    go_ret
    exact ⟨rfl, rfl⟩
  by_cases h16 : v = 16
  · subst h16
    simp only [if_true, if_false, show ((16 : Int) = 11) = False from by simp, show ((16 : Int) = 12) = False from by simp, show ((16 : Int) = 13) = False from by simp, show ((16 : Int) = 14) = False from by simp, show ((16 : Int) = 15) = False from by simp, show ((16 : Int) = 16) = True from by simp]
    go_enter Tryd.func56, Tryd.ntmps56
    go_wp2_with fail
    go_ret
    exact ⟨rfl, rfl⟩
  by_cases h17 : v = 17
  · subst h17
    simp only [if_true, if_false, show ((17 : Int) = 11) = False from by simp, show ((17 : Int) = 12) = False from by simp, show ((17 : Int) = 13) = False from by simp, show ((17 : Int) = 14) = False from by simp, show ((17 : Int) = 15) = False from by simp, show ((17 : Int) = 16) = False from by simp, show ((17 : Int) = 17) = True from by simp]
    go_enter Tryd.func56, Tryd.ntmps56
    go_wp2_with fail
    go_ret
    exact ⟨rfl, rfl⟩
  by_cases h18 : v = 18
  · subst h18
    simp only [if_true, if_false, show ((18 : Int) = 11) = False from by simp, show ((18 : Int) = 12) = False from by simp, show ((18 : Int) = 13) = False from by simp, show ((18 : Int) = 14) = False from by simp, show ((18 : Int) = 15) = False from by simp, show ((18 : Int) = 16) = False from by simp, show ((18 : Int) = 17) = False from by simp, show ((18 : Int) = 18) = True from by simp]
    go_enter Tryd.func56, Tryd.ntmps56
    go_wp2_with fail
    go_ret
    exact ⟨rfl, rfl⟩
  by_cases h19 : v = 19
  · subst h19
    simp only [if_true, if_false, show ((19 : Int) = 11) = False from by simp, show ((19 : Int) = 12) = False from by simp, show ((19 : Int) = 13) = False from by simp, show ((19 : Int) = 14) = False from by simp, show ((19 : Int) = 15) = False from by simp, show ((19 : Int) = 16) = False from by simp, show ((19 : Int) = 17) = False from by simp, show ((19 : Int) = 18) = False from by simp, show ((19 : Int) = 19) = True from by simp]
    go_enter Tryd.func56, Tryd.ntmps56
    go_wp2_with fail
    go_ret
    exact ⟨rfl, rfl⟩
  by_cases h20 : v = 20
  · subst h20
    simp only [if_true, if_false, show ((20 : Int) = 11) = False from by simp, show ((20 : Int) = 12) = False from by simp, show ((20 : Int) = 13) = False from by simp, show ((20 : Int) = 14) = False from by simp, show ((20 : Int) = 15) = False from by simp, show ((20 : Int) = 16) = False from by simp, show ((20 : Int) = 17) = False from by simp, show ((20 : Int) = 18) = False from by simp, show ((20 : Int) = 19) = False from by simp, show ((20 : Int) = 20) = True from by simp]
    go_enter Tryd.func56, Tryd.ntmps56
    go_wp2_with fail
    go_ret
    exact ⟨rfl, rfl⟩
  by_cases h21 : v = 21
  · subst h21
    simp only [if_true, if_false, show ((21 : Int) = 11) = False from by simp, show ((21 : Int) = 12) = False from by simp, show ((21 : Int) = 13) = False from by simp, show ((21 : Int) = 14) = False from by simp, show ((21 : Int) = 15) = False from by simp, show ((21 : Int) = 16) = False from by simp, show ((21 : Int) = 17) = False from by simp, show ((21 : Int) = 18) = False from by simp, show ((21 : Int) = 19) = False from by simp, show ((21 : Int) = 20) = False from by simp, show ((21 : Int) = 21) = True from by simp]
    go_enter Tryd.func56, Tryd.ntmps56
    go_wp2_with fail
    go_ret
    exact ⟨rfl, rfl⟩
  rw [if_neg h11, if_neg h12, if_neg h13, if_neg h14, if_neg h15, if_neg h16, if_neg h17, if_neg h18, if_neg h19, if_neg h20, if_neg h21]
  have g11 : (v == 11) = false := by simpa using h11
  have g12 : (v == 12) = false := by simpa using h12
  have g13 : (v == 13) = false := by simpa using h13
  have g14 : (v == 14) = false := by simpa using h14
  have g15 : (v == 15) = false := by simpa using h15
  have g16 : (v == 16) = false := by simpa using h16
  have g17 : (v == 17) = false := by simpa using h17
  have g18 : (v == 18) = false := by simpa using h18
  have g19 : (v == 19) = false := by simpa using h19
  have g20 : (v == 20) = false := by simpa using h20
  have g21 : (v == 21) = false := by simpa using h21
  go_enter Tryd.func56, Tryd.ntmps56
  go_wp2_with fail
  go_ret
  exact ⟨rfl, rfl⟩
def wFlt (v : Int) : ByteArray := if v = 31 then ⟨#[114, 101, 97, 100]⟩ else if v = 32 then ⟨#[119, 114, 105, 116, 101]⟩ else if v = 33 then ⟨#[101, 120, 101, 99]⟩ else if v = 34 then ⟨#[103, 97, 116, 101]⟩ else if v = 35 then ⟨#[98, 111, 117, 110, 100]⟩ else if v = 36 then ⟨#[111, 112]⟩ else if v = 37 then ⟨#[115, 116, 97, 99, 107]⟩ else ⟨#[101, 114, 114, 111, 114]⟩
theorem wFlt_size (v : Int) : (wFlt v).size ≤ 10 := by
  unfold wFlt
  repeat (first | (split; decide) | decide)
set_option maxHeartbeats 2000000 in
theorem wFlt_any (v : Int) (w : World) : Calls Tryd.prog 57 #[.int .i64 v] w fun e w' => e = .returned (.string (wFlt v)) ∧ w' = w := by
  unfold wFlt
  by_cases h31 : v = 31
  · subst h31
    simp only [if_true, if_false, show ((31 : Int) = 31) = True from by simp]
    go_enter Tryd.func57, Tryd.ntmps57
    go_wp2_with fail
    go_ret
    exact ⟨rfl, rfl⟩
  by_cases h32 : v = 32
  · subst h32
    simp only [if_true, if_false, show ((32 : Int) = 31) = False from by simp, show ((32 : Int) = 32) = True from by simp]
    go_enter Tryd.func57, Tryd.ntmps57
    go_wp2_with fail
    go_ret
    exact ⟨rfl, rfl⟩
  by_cases h33 : v = 33
  · subst h33
    simp only [if_true, if_false, show ((33 : Int) = 31) = False from by simp, show ((33 : Int) = 32) = False from by simp, show ((33 : Int) = 33) = True from by simp]
    go_enter Tryd.func57, Tryd.ntmps57
    go_wp2_with fail
    go_ret
    exact ⟨rfl, rfl⟩
  by_cases h34 : v = 34
  · subst h34
    simp only [if_true, if_false, show ((34 : Int) = 31) = False from by simp, show ((34 : Int) = 32) = False from by simp, show ((34 : Int) = 33) = False from by simp, show ((34 : Int) = 34) = True from by simp]
    go_enter Tryd.func57, Tryd.ntmps57
    go_wp2_with fail
    go_ret
    exact ⟨rfl, rfl⟩
  by_cases h35 : v = 35
  · subst h35
    simp only [if_true, if_false, show ((35 : Int) = 31) = False from by simp, show ((35 : Int) = 32) = False from by simp, show ((35 : Int) = 33) = False from by simp, show ((35 : Int) = 34) = False from by simp, show ((35 : Int) = 35) = True from by simp]
    go_enter Tryd.func57, Tryd.ntmps57
    go_wp2_with fail
    go_ret
    exact ⟨rfl, rfl⟩
  by_cases h36 : v = 36
  · subst h36
    simp only [if_true, if_false, show ((36 : Int) = 31) = False from by simp, show ((36 : Int) = 32) = False from by simp, show ((36 : Int) = 33) = False from by simp, show ((36 : Int) = 34) = False from by simp, show ((36 : Int) = 35) = False from by simp, show ((36 : Int) = 36) = True from by simp]
    go_enter Tryd.func57, Tryd.ntmps57
    go_wp2_with fail
    go_ret
    exact ⟨rfl, rfl⟩
  by_cases h37 : v = 37
  · subst h37
    simp only [if_true, if_false, show ((37 : Int) = 31) = False from by simp, show ((37 : Int) = 32) = False from by simp, show ((37 : Int) = 33) = False from by simp, show ((37 : Int) = 34) = False from by simp, show ((37 : Int) = 35) = False from by simp, show ((37 : Int) = 36) = False from by simp, show ((37 : Int) = 37) = True from by simp]
    go_enter Tryd.func57, Tryd.ntmps57
    go_wp2_with fail
    go_ret
    exact ⟨rfl, rfl⟩
  rw [if_neg h31, if_neg h32, if_neg h33, if_neg h34, if_neg h35, if_neg h36, if_neg h37]
  have g31 : (v == 31) = false := by simpa using h31
  have g32 : (v == 32) = false := by simpa using h32
  have g33 : (v == 33) = false := by simpa using h33
  have g34 : (v == 34) = false := by simpa using h34
  have g35 : (v == 35) = false := by simpa using h35
  have g36 : (v == 36) = false := by simpa using h36
  have g37 : (v == 37) = false := by simpa using h37
  go_enter Tryd.func57, Tryd.ntmps57
  go_wp2_with fail
  go_ret
  exact ⟨rfl, rfl⟩
def errW (v : Int) : ByteArray := if v = 0 then ⟨#[111, 107]⟩ else if v < 11 then wArgs v else if v < 31 then wSys v else wFlt v
theorem errW_size (v : Int) : (errW v).size ≤ 10 := by
  unfold errW
  split
  · decide
  · split
    · exact wArgs_size v
    · split
      · exact wSys_size v
      · exact wFlt_size v
set_option maxHeartbeats 2000000 in
theorem errW_any (v : Int) (w : World) : Calls Tryd.prog 40 #[.int .i64 v] w fun e w' => e = .returned (.string (errW v)) ∧ w' = w := by
  unfold errW
  by_cases h0 : v = 0
  · subst h0
    rw [if_pos rfl]
    go_enter Tryd.func40, Tryd.ntmps40
    go_wp2_with fail
    go_ret
    exact ⟨rfl, rfl⟩
  have g0 : (v == 0) = false := by simpa using h0
  rw [if_neg h0]
  by_cases h1 : v < 11
  · rw [if_pos h1]
    go_enter Tryd.func40, Tryd.ntmps40
    go_wp2_with fail
    refine (wArgs_any v w).mono ?_
    rintro e w' ⟨rfl, hw⟩
    replace hw := hw.symm
    subst hw
    go_wp2_with fail
    go_ret
    exact ⟨rfl, rfl⟩
  rw [if_neg h1]
  by_cases h2 : v < 31
  · rw [if_pos h2]
    go_enter Tryd.func40, Tryd.ntmps40
    go_wp2_with fail
    refine (wSys_any v w).mono ?_
    rintro e w' ⟨rfl, hw⟩
    replace hw := hw.symm
    subst hw
    go_wp2_with fail
    go_ret
    exact ⟨rfl, rfl⟩
  rw [if_neg h2]
  go_enter Tryd.func40, Tryd.ntmps40
  go_wp2_with fail
  refine (wFlt_any v w).mono ?_
  rintro e w' ⟨rfl, hw⟩
  replace hw := hw.symm
  subst hw
  go_wp2_with fail
  go_ret
  exact ⟨rfl, rfl⟩
def verbW (v : Int) : ByteArray := if v = 1 then ⟨#[108, 111, 103, 105, 110]⟩ else if v = 2 then ⟨#[115, 101, 103]⟩ else if v = 3 then ⟨#[100, 105, 114]⟩ else if v = 4 then ⟨#[100, 101, 108]⟩ else if v = 5 then ⟨#[97, 99, 108]⟩ else if v = 6 then ⟨#[114, 105, 110, 103, 115]⟩ else if v = 7 then ⟨#[112, 117, 116]⟩ else if v = 8 then ⟨#[103, 101, 116]⟩ else if v = 9 then ⟨#[108, 105, 115, 116]⟩ else if v = 10 then ⟨#[114, 117, 110]⟩ else if v = 11 then ⟨#[115, 101, 110, 100]⟩ else if v = 12 then ⟨#[116, 97, 107, 101]⟩ else if v = 13 then ⟨#[114, 101, 108, 101, 97, 115, 101]⟩ else if v = 14 then ⟨#[100, 101, 110, 121]⟩ else ⟨#[]⟩
theorem verbW_size (v : Int) : (verbW v).size ≤ 10 := by
  unfold verbW
  by_cases h1 : v = 1
  · rw [if_pos h1]; decide
  rw [if_neg h1]
  by_cases h2 : v = 2
  · rw [if_pos h2]; decide
  rw [if_neg h2]
  by_cases h3 : v = 3
  · rw [if_pos h3]; decide
  rw [if_neg h3]
  by_cases h4 : v = 4
  · rw [if_pos h4]; decide
  rw [if_neg h4]
  by_cases h5 : v = 5
  · rw [if_pos h5]; decide
  rw [if_neg h5]
  by_cases h6 : v = 6
  · rw [if_pos h6]; decide
  rw [if_neg h6]
  by_cases h7 : v = 7
  · rw [if_pos h7]; decide
  rw [if_neg h7]
  by_cases h8 : v = 8
  · rw [if_pos h8]; decide
  rw [if_neg h8]
  by_cases h9 : v = 9
  · rw [if_pos h9]; decide
  rw [if_neg h9]
  by_cases h10 : v = 10
  · rw [if_pos h10]; decide
  rw [if_neg h10]
  by_cases h11 : v = 11
  · rw [if_pos h11]; decide
  rw [if_neg h11]
  by_cases h12 : v = 12
  · rw [if_pos h12]; decide
  rw [if_neg h12]
  by_cases h13 : v = 13
  · rw [if_pos h13]; decide
  rw [if_neg h13]
  by_cases h14 : v = 14
  · rw [if_pos h14]; decide
  rw [if_neg h14]
  decide
def orS (s : ByteArray) : ByteArray := if s.toList.isEmpty = true then ⟨#[45]⟩ else s
theorem orS_size (s : ByteArray) : (orS s).size ≤ s.size + 1 := by
  unfold orS
  split
  · show 1 ≤ _; omega
  · omega
/-- An entry's text. -/
def audText (e : Ent) : ByteArray := itoaB e.seq ++ ⟨#[32]⟩ ++ ltextB e.label ++ ⟨#[32]⟩ ++ orS e.user ++ ⟨#[32]⟩ ++ verbW e.verb ++ ⟨#[32]⟩ ++ orS e.object ++ ⟨#[32]⟩ ++ errW e.verdict
end Go.Proofs.YtohocomemkckeaaDoor

/-! COUNTS, whatever they are made of: what the laws ask of them; the laws' small functions. -/
namespace Go.Proofs.YtohocomemkckeaaDoor
open Go.RowKit
set_option maxRecDepth 8000
set_option linter.unusedSimpArgs false
set_option linter.unusedVariables false

/-- Nothing has turned but blocks of S. -/
structure Turned (S : List Nat) (w w' : World) : Prop where
  os : w'.os = w.os
  tape : w'.tape = w.tape
  output : w'.output = w.output
  size : w.heap.size ≤ w'.heap.size
  block : ∀ k, k < w.heap.size → k ∉ S → w'.heap[k]? = w.heap[k]?
theorem Turned.below {S : List Nat} {w w' : World} (h : Turned S w w') {B : Nat} (hS : ∀ k ∈ S, B ≤ k) (hB : B ≤ w.heap.size) : Below B w w' :=
  ⟨h.os, h.tape, h.output, h.size, fun k hk => h.block k (by omega) fun q => by have := hS k q; omega⟩
theorem Turned.blk {S : List Nat} {w w' : World} (h : Turned S w w') {g : Nat} {cs : List Value} (hb : BlkL g cs w) (hg : g ∉ S) : BlkL g cs w' := ⟨hb.1.same (h.block g hb.2 hg), Nat.lt_of_lt_of_le hb.2 h.size⟩
theorem Turned.own {α : Type} {S : List Nat} {w w' : World} (h : Turned S w w') {e : TypeId} {sz : Nat} {f : α → List Value} {b : Nat} {v : Value} {l : List α} (ho : OwnR e sz f w b v l) (hb : ∀ k ∈ S, k < b) : OwnR e sz f w' b v l :=
  ho.keep fun k hk => h.block k (ho.lt hk).2 fun q => by have := hb k q; have := (ho.lt hk).1; omega
theorem Turned.own' {α : Type} {S : List Nat} {w w' : World} (h : Turned S w w') {e : TypeId} {sz : Nat} {f : α → List Value} {b : Nat} {v : Value} {l : List α} (ho : OwnR e sz f w b v l) (hb : ∀ k, v.ownBlock = some k → k ∉ S) : OwnR e sz f w' b v l :=
  ho.keep fun k hk => h.block k (ho.lt hk).2 (hb k hk)
theorem Turned.then {S : List Nat} {w w' w'' : World} (h : Turned S w w') (k : Below w'.heap.size w' w'') : Turned S w w'' :=
  ⟨k.os.trans h.os, k.tape.trans h.tape, k.output.trans h.output, Nat.le_trans h.size k.size, fun j hj hn => (k.block j (Nat.lt_of_lt_of_le hj h.size)).trans (h.block j hj hn)⟩
end Go.Proofs.YtohocomemkckeaaDoor

/-! THE LAWS' SMALL FUNCTIONS (chapter 14), and what the laws ask of package audit, whatever it is made of. -/
namespace Go.Proofs.YtohocomemkckeaaDoor
open Go.RowKit
set_option maxRecDepth 8000
set_option linter.unusedSimpArgs false
set_option linter.unusedVariables false

theorem run_eql_ent (x y : Ent) (w : World) : (binOp .eql 26 (.agg (ecs x).toArray) (.agg (ecs y).toArray)).run Tryd.prog w = .ok (.bool (entEq x y)) w := by
  have h1 := Tryd.underlying26
  have h2 := Tryd.underlying23
  have h3 := Tryd.underlying3
  have h4 := Tryd.underlying9
  have h5 := Tryd.underlying24
  unfold ecs entEq labEq eqs
  go_simp
  repeat' split
  all_goals simp_all
theorem run_neq_ent (x y : Ent) (w : World) : (binOp .neq 26 (.agg (ecs x).toArray) (.agg (ecs y).toArray)).run Tryd.prog w = .ok (.bool (!entEq x y)) w := by
  have h1 := Tryd.underlying26
  have h2 := Tryd.underlying23
  have h3 := Tryd.underlying3
  have h4 := Tryd.underlying9
  have h5 := Tryd.underlying24
  unfold ecs entEq labEq eqs
  go_simp
  repeat' split
  all_goals simp_all
set_option maxHeartbeats 400000 in
theorem w14_any (k m : Int) (h0 : 0 < m) (h1 : m < 1000000) (w : World) :
    Calls Tryd.prog 9 #[.int .i64 k, .int .i64 m] w fun e w' => e = .returned (.int .i64 (k % m)) ∧ w' = w := by
  have b1 := Int.lt_tmod_of_pos k h0
  have b2 := Int.tmod_lt_of_pos k h0
  have hm0 : ¬ m = 0 := by omega
  have hm1 : ¬ m = -1 := by omega
  by_cases hn : k.tmod m < 0
  · have e1 : k % m = k.tmod m + m := by
      rw [Int.tmod_eq_emod] at hn ⊢
      split at hn
      · have := Int.emod_nonneg k (by omega : m ≠ 0); omega
      · rename_i hc; rw [if_neg hc]; rw [Int.natAbs_of_nonneg (by omega)]; omega
    rw [e1]
    clear e1
    go_enter Tryd.func9, Tryd.ntmps9
    go_wp2
    go_ret
    exact ⟨rfl, rfl⟩
  · have e1 : k % m = k.tmod m := by
      rw [Int.tmod_eq_emod] at hn ⊢
      split
      · simp
      · rename_i hc
        rw [if_neg hc] at hn
        have := Int.emod_lt_of_pos k h0
        rw [Int.natAbs_of_nonneg (by omega)] at *
        omega
    rw [e1]
    clear e1
    go_enter Tryd.func9, Tryd.ntmps9
    go_wp2
    go_ret
    exact ⟨rfl, rfl⟩
set_option maxHeartbeats 2000000 in
theorem same_any (a b : Option Addr) (ca cb : Nat) (l : List Ent) (hl : l.length ≤ 100000) (w : World) (ha : RowE w a l) (hb : RowE w b l) :
    Calls Tryd.prog 16 #[.slice a l.length ca, .slice b l.length cb] w fun e w' => e = .returned (.bool true) ∧ Below w.heap.size w w' := by
  have hundE := Tryd.underlying26
  have hse : (Tryd.prog.info? 26).map (·.size) = some 9 := by kernel_rfl
  obtain ⟨n, hn⟩ : ∃ n, l.length = n := ⟨_, rfl⟩
  rw [hn] at hl ⊢
  replace hn : Aside (l.length = n) := hn
  go_enter Tryd.func16, Tryd.ntmps16
  go_wp2_with fail
  go_loopw [5] (fun t5 wr => ∃ i : Nat, i ≤ n ∧ t5 = .int .i64 (i : Int) ∧ Below w.heap.size w wr) (fun t5 _ => n - (Go.RowKit.intOf t5).toNat)
  case atStart => exact ⟨0, by omega, rfl, Below.refl _ _⟩
  case round =>
    obtain ⟨i, hi, rfl, hB⟩ := hrel
    by_cases hlt : i < n
    · obtain ⟨x, hx⟩ : ∃ x, l[i]? = some x := ⟨_, List.getElem?_eq_getElem (by rw [hn.out]; exact hlt)⟩
      obtain ⟨y, rfl, -⟩ := ha i x hx
      obtain ⟨z, rfl, -⟩ := hb i x hx
      have hBd := Below.then hB (Below.refl wr.heap.size wr).drew
      have hS : (fun W => Below w.heap.size w W) wr.drew := hBd
      have hnq : ∀ W, (binOp .neq 26 (.agg (ecs x).toArray) (.agg (ecs x).toArray)).run Tryd.prog W = .ok (.bool false) W := fun W => by rw [run_neq_ent, entEq_iff.2 rfl]; rfl
      have i1 : (i : Int) < (n : Int) := by omega
      go_wp2_with fail
      refine wp_region_held_drew (S := (fun W => Below w.heap.size w W)) (by kernel_rfl) (by exact hS) ?_
      intro hHeld
      (first | (refine wpAnyH_take (i := 0) (v := ?_) (by simp only [gA, gB, gC]; rfl) (by kernel_rfl) (by kernel_rfl) (by kernel_rfl) (by exact fun _ _ _ h => h) (Or.inl ⟨by rfl, ?_⟩) (by assumption) ?_; rotate_left; (focus (intro w hSw; (try dsimp only at hSw); go_simp; try with_reducible rfl))) | (refine wpAnyH_take (i := 0) (v := undef) (by simp only [gA, gB, gC]; rfl) (by kernel_rfl) (by kernel_rfl) (by kernel_rfl) (by exact fun _ _ _ h => h) (Or.inr ⟨by rfl, rfl⟩) (by assumption) ?_) | fail); simp only [Act.put, sA, sB, sC]
      (first | (refine wpAnyH_take (i := 1) (v := ?_) (by simp only [gA, gB, gC]; rfl) (by kernel_rfl) (by kernel_rfl) (by kernel_rfl) (by exact fun _ _ _ h => h) (Or.inl ⟨by rfl, ?_⟩) (by assumption) ?_; rotate_left; (focus (intro w hSw; (try dsimp only at hSw); go_simp; try with_reducible rfl))) | (refine wpAnyH_take (i := 1) (v := undef) (by simp only [gA, gB, gC]; rfl) (by kernel_rfl) (by kernel_rfl) (by kernel_rfl) (by exact fun _ _ _ h => h) (Or.inr ⟨by rfl, rfl⟩) (by assumption) ?_) | fail); simp only [Act.put, sA, sB, sC]
      (first | (refine wpAnyH_take (i := 2) (v := ?_) (by simp only [gA, gB, gC]; rfl) (by kernel_rfl) (by kernel_rfl) (by kernel_rfl) (by exact fun _ _ _ h => h) (Or.inl ⟨by rfl, ?_⟩) (by assumption) ?_; rotate_left; (focus (intro w hSw; (try dsimp only at hSw); go_simp; try with_reducible rfl))) | (refine wpAnyH_take (i := 2) (v := undef) (by simp only [gA, gB, gC]; rfl) (by kernel_rfl) (by kernel_rfl) (by kernel_rfl) (by exact fun _ _ _ h => h) (Or.inr ⟨by rfl, rfl⟩) (by assumption) ?_) | fail); simp only [Act.put, sA, sB, sC]
      (first | (refine wpAnyH_take (i := 3) (v := _) (by simp only [gA, gB, gC]; rfl) (by kernel_rfl) (by kernel_rfl) (by kernel_rfl) (by exact fun _ _ _ h => h) (yields_at (by rfl) _ rfl _ rfl (ecs x) (fun _ q => (ha.below ent_ok.len q).at ent_ok.len hx) hundE rfl hse) (by assumption) ?_) | (refine wpAnyH_take (i := 3) (v := undef) (by simp only [gA, gB, gC]; rfl) (by kernel_rfl) (by kernel_rfl) (by kernel_rfl) (by exact fun _ _ _ h => h) (Or.inr ⟨by rfl, rfl⟩) (by assumption) ?_) | fail); simp only [Act.put, sA, sB, sC]
      (first | (refine wpAnyH_take (i := 4) (v := ?_) (by simp only [gA, gB, gC]; rfl) (by kernel_rfl) (by kernel_rfl) (by kernel_rfl) (by exact fun _ _ _ h => h) (Or.inl ⟨by rfl, ?_⟩) (by assumption) ?_; rotate_left; (focus (intro w hSw; (try dsimp only at hSw); go_simp; try with_reducible rfl))) | (refine wpAnyH_take (i := 4) (v := undef) (by simp only [gA, gB, gC]; rfl) (by kernel_rfl) (by kernel_rfl) (by kernel_rfl) (by exact fun _ _ _ h => h) (Or.inr ⟨by rfl, rfl⟩) (by assumption) ?_) | fail); simp only [Act.put, sA, sB, sC]
      (first | (refine wpAnyH_take (i := 5) (v := ?_) (by simp only [gA, gB, gC]; rfl) (by kernel_rfl) (by kernel_rfl) (by kernel_rfl) (by exact fun _ _ _ h => h) (Or.inl ⟨by rfl, ?_⟩) (by assumption) ?_; rotate_left; (focus (intro w hSw; (try dsimp only at hSw); go_simp; try with_reducible rfl))) | (refine wpAnyH_take (i := 5) (v := undef) (by simp only [gA, gB, gC]; rfl) (by kernel_rfl) (by kernel_rfl) (by kernel_rfl) (by exact fun _ _ _ h => h) (Or.inr ⟨by rfl, rfl⟩) (by assumption) ?_) | fail); simp only [Act.put, sA, sB, sC]
      (first | (refine wpAnyH_take (i := 6) (v := ?_) (by simp only [gA, gB, gC]; rfl) (by kernel_rfl) (by kernel_rfl) (by kernel_rfl) (by exact fun _ _ _ h => h) (Or.inl ⟨by rfl, ?_⟩) (by assumption) ?_; rotate_left; (focus (intro w hSw; (try dsimp only at hSw); go_simp; try with_reducible rfl))) | (refine wpAnyH_take (i := 6) (v := undef) (by simp only [gA, gB, gC]; rfl) (by kernel_rfl) (by kernel_rfl) (by kernel_rfl) (by exact fun _ _ _ h => h) (Or.inr ⟨by rfl, rfl⟩) (by assumption) ?_) | fail); simp only [Act.put, sA, sB, sC]
      (first | (refine wpAnyH_take (i := 7) (v := _) (by simp only [gA, gB, gC]; rfl) (by kernel_rfl) (by kernel_rfl) (by kernel_rfl) (by exact fun _ _ _ h => h) (yields_at (by rfl) _ rfl _ rfl (ecs x) (fun _ q => (hb.below ent_ok.len q).at ent_ok.len hx) hundE rfl hse) (by assumption) ?_) | (refine wpAnyH_take (i := 7) (v := undef) (by simp only [gA, gB, gC]; rfl) (by kernel_rfl) (by kernel_rfl) (by kernel_rfl) (by exact fun _ _ _ h => h) (Or.inr ⟨by rfl, rfl⟩) (by assumption) ?_) | fail); simp only [Act.put, sA, sB, sC]
      (first | (refine wpAnyH_take (i := 8) (v := ?_) (by simp only [gA, gB, gC]; rfl) (by kernel_rfl) (by kernel_rfl) (by kernel_rfl) (by exact fun _ _ _ h => h) (Or.inl ⟨by rfl, ?_⟩) (by assumption) ?_; rotate_left; (focus (intro w hSw; (try dsimp only at hSw); go_simp; try with_reducible rfl))) | (refine wpAnyH_take (i := 8) (v := undef) (by simp only [gA, gB, gC]; rfl) (by kernel_rfl) (by kernel_rfl) (by kernel_rfl) (by exact fun _ _ _ h => h) (Or.inr ⟨by rfl, rfl⟩) (by assumption) ?_) | fail); simp only [Act.put, sA, sB, sC]
      refine wpAnyH_done (by kernel_rfl) ?_ _
      go_wp2_with fail
      exact ⟨⟨i + 1, by omega, by simp, hBd⟩, by simp [Go.RowKit.intOf]; omega⟩
    · obtain rfl : i = n := by omega
      go_wp2_with fail
      go_ret
      exact ⟨rfl, hB⟩
theorem set_verb (W : World) (g : Nat) (e : Ent) (s : Int) (h : BlkL g (ecs e) W) : BlkL g (ecs { e with verb := s }) (W.setCell ⟨g, 6, none⟩ (.int .i64 s)) := by
  have h1 := h.1.set 6 (.int .i64 s) (by simp [ecs])
  exact ⟨h1, h1.lt rfl⟩
theorem set_verdict (W : World) (g : Nat) (e : Ent) (s : Int) (h : BlkL g (ecs e) W) : BlkL g (ecs { e with verdict := s }) (W.setCell ⟨g, 8, none⟩ (.int .i64 s)) := by
  have h1 := h.1.set 8 (.int .i64 s) (by simp [ecs])
  exact ⟨h1, h1.lt rfl⟩
theorem set_user (W : World) (g : Nat) (e : Ent) (s : ByteArray) (h : BlkL g (ecs e) W) : BlkL g (ecs { e with user := s }) (W.setCell ⟨g, 5, none⟩ (.string s)) := by
  have h1 := h.1.set 5 (.string s) (by simp [ecs])
  exact ⟨h1, h1.lt rfl⟩
theorem set_object (W : World) (g : Nat) (e : Ent) (s : ByteArray) (h : BlkL g (ecs e) W) : BlkL g (ecs { e with object := s }) (W.setCell ⟨g, 7, none⟩ (.string s)) := by
  have h1 := h.1.set 7 (.string s) (by simp [ecs])
  exact ⟨h1, h1.lt rfl⟩
abbrev zE : Array Value := #[.int .i64 0, .int .i64 0, .int .i64 0, .int .i64 0, .int .i64 0, .string ⟨#[]⟩, .int .i64 0, .string ⟨#[]⟩, .int .i64 0]
/-- The argument's box, the result's, and what lay there. -/
structure GE (w W : World) (e : Ent) : Prop where
  bl : Below w.heap.size w W
  bx : BlkL w.heap.size (ecs e) W
  rs : BlkL (w.heap.size + 1) zE.toList W
theorem GE.then {w W W' : World} {e : Ent} (h : GE w W e) (b : Below W.heap.size W W') : GE w W' e := ⟨Below.then h.bl b, stab_blk _ _ _ _ h.bx b, stab_blk _ _ _ _ h.rs b⟩
theorem GE.set {w W : World} {e e' : Ent} (h : GE w W e) (k : Nat) (v : Value) (hb : BlkL w.heap.size (ecs e') (W.setCell ⟨w.heap.size, k, none⟩ v)) : GE w (W.setCell ⟨w.heap.size, k, none⟩ v) e' :=
  ⟨h.bl.setCell (p := ⟨w.heap.size, k, none⟩) (Nat.le_refl _) v, hb, by
    have h1 := h.rs.1.same (heap_setCell_other W ⟨w.heap.size, k, none⟩ (w.heap.size + 1) v (by show w.heap.size + 1 ≠ w.heap.size; omega))
    exact ⟨h1, h1.lt rfl⟩⟩
set_option maxRecDepth 8000 in
set_option maxHeartbeats 4000000 in
theorem agood_any (e : Ent) (w : World) :
    Calls Tryd.prog 11 #[.agg (ecs e).toArray] w fun r w' => r = .returned (.agg (ecs (goodE e)).toArray) ∧ Below w.heap.size w w' := by
  have hundL := Tryd.underlying23
  have hundE := Tryd.underlying26
  have hsl : (Tryd.prog.info? 23).map (·.size) = some 4 := by kernel_rfl
  have hse : (Tryd.prog.info? 26).map (·.size) = some 9 := by kernel_rfl
  have hb0 := blkl_alloc w (ecs e).toArray 26
  have hB0 := alloc_below w (.cells (ecs e).toArray 26)
  have hB1 := alloc_below (w.alloc (.cells (ecs e).toArray 26)) (.cells zE 26)
  have hb1 := blkl_alloc (w.alloc (.cells (ecs e).toArray 26)) zE 26
  rw [World.size_alloc] at hb1
  have h0 : GE w ((w.alloc (.cells (ecs e).toArray 26)).alloc (.cells zE 26)) e := ⟨Below.then hB0 hB1, stab_blk _ _ _ _ hb0 hB1, hb1⟩
  clear hb0 hB0 hB1 hb1
  have hcs : ecs e = [.int .i64 e.seq, .int .i64 e.label.s, .int .i64 e.label.c, .int .i64 e.label.i, .int .i64 e.label.k, .string e.user, .int .i64 e.verb, .string e.object, .int .i64 e.verdict] := rfl
  obtain ⟨R, hR⟩ : ∃ R, goodE e = R := ⟨_, rfl⟩
  rw [hR]
  replace hR : Aside (goodE e = R) := hR
  rw [hcs] at h0 ⊢
  go_enter Tryd.func11, Tryd.ntmps11
  go_upto_region 1 with fail
  generalize (w.alloc (.cells ([.int .i64 e.seq, .int .i64 e.label.s, .int .i64 e.label.c, .int .i64 e.label.i, .int .i64 e.label.k, .string e.user, .int .i64 e.verb, .string e.object, .int .i64 e.verdict]).toArray 26)).alloc (.cells zE 26) = W0 at *
  clear hcs
  have hcl := ebox_lab h0.bx
  go_wp2_with (first | (refine wpList_load_at rfl _ rfl ⟨w.heap.size, 1, none⟩ rfl (lab4 e.label) hcl hundL rfl hsl ?_) | fail)
  refine (good_any e.label W0).mono ?_
  rintro r W1 ⟨rfl, hB1⟩
  have h1 := h0.then hB1
  clear h0 hcl hB1
  obtain ⟨W2, hW2, hth2, hb2, hB2⟩ := put_mid h1.bx 1 (lab4 (goodL e.label)) (by simp [ecs]) (by simp [ecs]) h1.bl (Nat.le_refl _)
  have h2 : GE w W2 { e with label := goodL e.label } := ⟨hB2, hb2, h1.rs.other hW2 (by omega)⟩
  obtain ⟨e2, he2⟩ : ∃ e2, ({ e with label := goodL e.label } : Ent) = e2 := ⟨_, rfl⟩
  rw [he2] at h2
  clear hb2 hB2 h1
  have z6 := (h2.bx.1 6 _ rfl).1
  have kw := w14_any e2.verb 14 (by decide) (by decide) W2
  have hm14 : 0 ≤ e2.verb % 14 ∧ e2.verb % 14 < 14 := ⟨Int.emod_nonneg _ (by decide), Int.emod_lt_of_pos _ (by decide)⟩
  obtain ⟨m, hm⟩ : ∃ m, e2.verb % 14 = m := ⟨_, rfl⟩
  rw [hm] at kw hm14
  go_upto_region 2 with (first | (refine wpList_store_part rfl _ _ rfl w.heap.size 1 rfl (lab4 (goodL e.label)) rfl hth2 hsl (lab4_one _) hW2 ?_) | fail)
  clear hth2 hW2
  replace hm : Aside (e2.verb % 14 = m) := hm
  go_wp2_with fail
  refine kw.mono ?_
  rintro r w' ⟨rfl, hw'⟩
  replace hw' := hw'.symm
  subst hw'
  obtain ⟨-, f6⟩ := h2.bx.1 6 _ rfl
  have h3 := h2.set 6 _ (set_verb _ _ _ (1 + m) h2.bx)
  obtain ⟨e3, he3⟩ : ∃ e3, ({ e2 with verb := 1 + m } : Ent) = e3 := ⟨_, rfl⟩
  rw [he3] at h3
  go_upto_region 3 with fail
  generalize W2.setCell ⟨w.heap.size, 6, none⟩ (.int .i64 (1 + m)) = W3 at *
  clear z6 kw h2 f6 hm14
  have z8 := (h3.bx.1 8 _ rfl).1
  have kw := w14_any e3.verdict 38 (by decide) (by decide) W3
  obtain ⟨d, hd⟩ : ∃ d, e3.verdict % 38 = d := ⟨_, rfl⟩
  rw [hd] at kw
  replace hd : Aside (e3.verdict % 38 = d) := hd
  go_wp2_with fail
  refine kw.mono ?_
  rintro r w' ⟨rfl, hw'⟩
  replace hw' := hw'.symm
  subst hw'
  obtain ⟨-, f8⟩ := h3.bx.1 8 _ rfl
  have h4 := h3.set 8 _ (set_verdict _ _ _ d h3.bx)
  obtain ⟨e4, he4⟩ : ∃ e4, ({ e3 with verdict := d } : Ent) = e4 := ⟨_, rfl⟩
  rw [he4] at h4
  go_upto_region 4 with fail
  generalize W3.setCell ⟨w.heap.size, 8, none⟩ (.int .i64 d) = W4 at *
  clear z8 kw h3 f8
  have z5 := (h4.bx.1 5 _ rfl).1
  obtain ⟨-, f5⟩ := h4.bx.1 5 _ rfl
  go_upto_if 19 with fail
  go_cut [] from 3 (fun wc => GE w wc { e4 with user := cutS e4.user 12 })
  case first =>
    by_cases hc : 12 < e4.user.size
    · have i1 : (12 : Int) < (e4.user.size : Int) := by omega
      have hcu : cutS e4.user 12 = e4.user.extract 0 12 := by unfold cutS; rw [if_pos hc]
      have h5 : GE w (W4.setCell ⟨w.heap.size, 5, none⟩ (.string (e4.user.extract 0 12))) { e4 with user := cutS e4.user 12 } := by rw [hcu]; exact h4.set 5 _ (set_user _ _ _ (e4.user.extract 0 12) h4.bx)
      clear hcu
      go_wp2_with fail
      go_meet
      exact h5
    · have i1 : ¬ (12 : Int) < (e4.user.size : Int) := by omega
      have hcu : cutS e4.user 12 = e4.user := by unfold cutS; rw [if_neg hc]
      have h5 : GE w W4 { e4 with user := cutS e4.user 12 } := by rw [hcu]; exact h4
      clear hcu
      go_wp2_with fail
      go_meet
      exact h5
  case rest =>
  clear h4 z5 f5
  have h5 := hcut
  clear hcut
  obtain ⟨e5, he5⟩ : ∃ e5, ({ e4 with user := cutS e4.user 12 } : Ent) = e5 := ⟨_, rfl⟩
  rw [he5] at h5
  have z7 := (h5.bx.1 7 _ rfl).1
  obtain ⟨-, f7⟩ := h5.bx.1 7 _ rfl
  go_upto_if 27 with fail
  go_cut [] from 3 (fun wd => GE w wd { e5 with object := cutS e5.object 30 })
  case first =>
    by_cases hc : 30 < e5.object.size
    · have i1 : (30 : Int) < (e5.object.size : Int) := by omega
      have hcu : cutS e5.object 30 = e5.object.extract 0 30 := by unfold cutS; rw [if_pos hc]
      have h6 : GE w (wc.setCell ⟨w.heap.size, 7, none⟩ (.string (e5.object.extract 0 30))) { e5 with object := cutS e5.object 30 } := by rw [hcu]; exact h5.set 7 _ (set_object _ _ _ (e5.object.extract 0 30) h5.bx)
      clear hcu
      go_wp2_with fail
      go_meet
      exact h6
    · have i1 : ¬ (30 : Int) < (e5.object.size : Int) := by omega
      have hcu : cutS e5.object 30 = e5.object := by unfold cutS; rw [if_neg hc]
      have h6 : GE w wc { e5 with object := cutS e5.object 30 } := by rw [hcu]; exact h5
      clear hcu
      go_wp2_with fail
      go_meet
      exact h6
  case rest =>
  clear h5 z7 f7
  have h6 := hcut
  clear hcut
  have hRe : ({ e5 with object := cutS e5.object 30 } : Ent) = R := by
    rw [← hR.out, ← he5, ← he4, ← he3, ← he2]
    unfold goodE
    rw [← hd.out, ← hm.out, ← he3, ← he2]
  rw [hRe] at h6
  have hrg := h6.bx.range
  obtain ⟨W9, hW9, hth9, hk9, hb9⟩ := put_mid h6.rs 0 (ecs R) (by simp [ecs]) (by simp) h6.bl (by omega)
  replace hk9 : BlkL (w.heap.size + 1) (ecs R) W9 := hk9
  clear hRe he5 he4 he3 he2 hR hd hm
  go_wp2_with (first | (refine wpList_load_row rfl _ rfl w.heap.size rfl (ecs R) hrg hundE rfl hse ?_) | (refine wpList_store_part rfl _ _ rfl (w.heap.size + 1) 0 rfl (ecs R) rfl hth9 hse (ent_one R) hW9 ?_) | fail)
  refine bodyPost_ret (v := .agg (ecs R).toArray) (results_row1 rfl _ _ (w.heap.size + 1) rfl (ecs R) hk9.range hundE rfl hse) rfl ?_
  exact ⟨rfl, hb9⟩
end Go.Proofs.YtohocomemkckeaaDoor

/-! WHAT THE LAWS ASK OF PACKAGE audit, whatever it is made of (chapter 14); the chapter's example. -/
namespace Go.Proofs.YtohocomemkckeaaDoor
open Go.RowKit
set_option maxRecDepth 8000
set_option linter.unusedSimpArgs false
set_option linter.unusedVariables false

/-- A row that is told: its block lies from b on, and there it stands. -/
structure TellE (w : World) (b : Nat) (v : Value) (l : List Ent) : Prop where
  sl : ∃ a cap, v = .slice a l.length cap ∧ l.length ≤ cap ∧ (a = none → cap = 0) ∧ RowE w a l
  ln : ∀ k, v.ownBlock = some k → b ≤ k ∧ k < w.heap.size
theorem TellE.lt {w : World} {b : Nat} {v : Value} {l : List Ent} (h : TellE w b v l) {k : Nat} (hk : v.ownBlock = some k) : b ≤ k ∧ k < w.heap.size := h.ln k hk
theorem addA_block (y : Addr) (m : Nat) : (y.add m).block = y.block := by
  unfold Addr.add
  split <;> rfl
theorem RowAt.keepB {α : Type} {sz : Nat} {f : α → List Value} {w w' : World} {a : Option Addr} {l : List α} (h : RowAt sz f w a l) (hb : ∀ y, a = some y → w'.heap[y.block]? = w.heap[y.block]?) : RowAt sz f w' a l := fun j x hx => by
  obtain ⟨y, hy, hc⟩ := h j x hx
  refine ⟨y, hy, fun i hi => ?_⟩
  rw [← hc i hi]
  exact World.cell?_of_block (by rw [addA_block]; exact hb y hy)
theorem TellE.keep {w w' : World} {b : Nat} {v : Value} {l : List Ent} (h : TellE w b v l) (hb : ∀ k, v.ownBlock = some k → w'.heap[k]? = w.heap[k]?) : TellE w' b v l := by
  obtain ⟨⟨a, cap, rfl, h1, h2, h3⟩, h4⟩ := h
  refine ⟨⟨a, cap, rfl, h1, h2, h3.keepB fun y hy => hb y.block (by rw [hy]; rfl)⟩, fun k hk => ⟨(h4 k hk).1, ?_⟩⟩
  have h5 := hb k hk
  rw [Array.getElem?_eq_getElem (h4 k hk).2] at h5
  exact (Array.getElem?_eq_some_iff.1 h5).1
theorem TellE.below {w w' : World} {b : Nat} {v : Value} {l : List Ent} (h : TellE w b v l) (k : Below w.heap.size w w') : TellE w' b v l := h.keep fun j hj => k.block j (h.lt hj).2
theorem TellE.lower {w : World} {b c : Nat} {v : Value} {l : List Ent} (h : TellE w b v l) (hb : c ≤ b) : TellE w c v l := ⟨h.sl, fun k hk => ⟨Nat.le_trans hb (h.ln k hk).1, (h.ln k hk).2⟩⟩
theorem tell_own {w : World} {b : Nat} {v : Value} {l : List Ent} (h : OwnE w b v l) : TellE w b v l := ⟨OwnR.slice ent_ok.len h, fun k hk => OwnR.lt h hk⟩
/-- I w: what the calls lean on of the library's variables. Q w S p st: at p lies a log of the entries st, in the blocks S. -/
structure LogOk (I : World → Prop) (Q : World → List Nat → Addr → List Ent → Prop) : Prop where
  keep : ∀ {w w' : World} {S : List Nat} {p : Addr} {st : List Ent}, Q w S p st → (∀ k ∈ S, w'.heap[k]? = w.heap[k]?) → Q w' S p st
  lt : ∀ {w : World} {S : List Nat} {p : Addr} {st : List Ent}, Q w S p st → ∀ k ∈ S, k < w.heap.size
  new : ∀ w, I w → Calls Tryd.prog 10 #[] w fun e w' => ∃ p S, e = .returned (.pointer (some p)) ∧ Q w' S p [] ∧ (∀ k ∈ S, w.heap.size ≤ k) ∧ Below w.heap.size w w'
  add : ∀ {S p st} (e : Ent) (_ : e.Small) (w : World), I w → Q w S p st → AudSt st → st.length ≤ 200 → Calls Tryd.prog 12 #[.pointer (some p), .agg (ecs e).toArray] w fun r w' => r = .returned (.int .i64 (audErr st e)) ∧ ∃ S', Q w' S' p (audAdd st e) ∧ Turned S w w' ∧ ∀ k ∈ S', k ∈ S ∨ w.heap.size ≤ k
  full : ∀ {S p st} (t : Lab) (_ : GL t) (w : World), I w → Q w S p st → AudSt st → st.length ≤ 200 → Calls Tryd.prog 14 #[.pointer (some p), t.v] w fun r w' => r = .returned (.bool (audFull st t)) ∧ Below w.heap.size w w'
  all : ∀ {S p st} (t : Lab) (_ : GL t) (w : World), I w → Q w S p st → AudSt st → st.length ≤ 200 → Calls Tryd.prog 13 #[.pointer (some p), t.v] w fun r w' => ∃ v, r = .returned v ∧ TellE w' w.heap.size v (audAll st t) ∧ Below w.heap.size w w'
  seen : ∀ {S p st} (t : Lab) (_ : GL t) (w : World), I w → Q w S p st → AudSt st → st.length ≤ 200 → Calls Tryd.prog 15 #[.pointer (some p), t.v] w fun r w' => ∃ v, r = .returned v ∧ TellE w' w.heap.size v (audSeen st t) ∧ Below w.heap.size w w'
  chain : ∀ {S p st} (t : Lab) (_ : GL t) (w : World), I w → Q w S p st → AudSt st → st.length ≤ 200 → Calls Tryd.prog 21 #[.pointer (some p), t.v] w fun r w' => r = .returned (.int .u64 ((audChain st t : Nat) : Int)) ∧ Below w.heap.size w w'
  text : ∀ (e : Ent) (_ : audMay e = 0) (_ : -9223372036854775808 ≤ e.seq ∧ e.seq ≤ 9223372036854775807) (w : World), I w → Calls Tryd.prog 22 #[.agg (ecs e).toArray] w fun r w' => r = .returned (.string (audText e)) ∧ Below w.heap.size w w'
theorem LogOk.below {I : World → Prop} {Q : World → List Nat → Addr → List Ent → Prop} (C : LogOk I Q) {w w' : World} {S : List Nat} {p : Addr} {st : List Ent} (h : Q w S p st) (b : Below w.heap.size w w') : Q w' S p st := C.keep h fun k hk => b.block k (C.lt h k hk)
theorem may_small {e : Ent} (h : audMay e = 0) : e.Small := by
  obtain ⟨_, _, _, h1, h2, _⟩ := may_zero.1 h
  exact ⟨by omega, by omega⟩
def knE : Ent := ⟨1, ⟨0, 0, 3, 255⟩, ⟨#[97]⟩, 2, ⟨#[47, 120]⟩, 0⟩
theorem knE_may : audMay knE = 0 := by decide +kernel
theorem knE_text : audText knE = ⟨#[49, 32, 48, 46, 48, 46, 51, 46, 50, 53, 53, 32, 97, 32, 115, 101, 103, 32, 47, 120, 32, 111, 107]⟩ := by
  unfold audText knE
  simp only [ltextB]
  rw [show (1 : Int) = ((1 : Nat) : Int) from rfl, itoa_pos, dg_low 1 (by decide), show (0 : Int) = ((0 : Nat) : Int) from rfl, itoa_pos, dg_low 0 (by decide), show (3 : Int) = ((3 : Nat) : Int) from rfl, itoa_pos, dg_low 3 (by decide), show (255 : Int) = ((255 : Nat) : Int) from rfl, itoa_pos, dg_next 255 (by decide), dg_next (255 / 10) (by decide), dg_low (255 / 10 / 10) (by decide), dg_low (255 / 10 % 10) (by decide)]
  decide +kernel
set_option maxHeartbeats 1000000 in
theorem aknown_any {I : World → Prop} {Q : World → List Nat → Addr → List Ent → Prop} (C : LogOk I Q) (w : World) (hI : I w) : Calls Tryd.prog 7 #[] w fun e w' => e = .returned (.bool true) ∧ Below w.heap.size w w' := by
  have kt := C.text knE knE_may (by decide) w hI
  rw [knE_text] at kt
  replace kt : Calls Tryd.prog 22 #[.agg #[.int .i64 1, .int .i64 0, .int .i64 0, .int .i64 3, .int .i64 255, .string ⟨#[97]⟩, .int .i64 2, .string ⟨#[47, 120]⟩, .int .i64 0]] w _ := kt
  go_enter Tryd.func7, Tryd.ntmps7
  go_wp2_with fail
  refine kt.mono ?_
  rintro e W1 ⟨rfl, hB⟩
  go_wp2_with fail
  go_ret
  exact ⟨rfl, hB⟩
/-- A label's box of one's own turned. -/
theorem turn_labA {b : Nat} {W : World} {s : Lab} (t : Lab) (hb : BlkL b (lab4 s) W) : ∃ W', W.setCells b 0 (lab4 t) = W' ∧ W.there b 0 (lab4 t).length ∧ BlkL b (lab4 t) W' ∧ (∀ k, k ≠ b → W'.heap[k]? = W.heap[k]?) ∧ ∀ B W0, B ≤ b → Below B W0 W → Below B W0 W' := by
  have h1 : Blk (W.setCells b 0 (lab4 t)) b (lab4 t) := hb.1.setAll rfl
  exact ⟨_, rfl, hb.1.there, ⟨h1, h1.lt rfl⟩, fun k hk => heap_setCells_other hk _ _ _, fun B W0 hB h => Below.cells hB _ 0 h⟩
/-- A log in the law's own world: its blocks lie from b on. -/
structure LG (Q : World → List Nat → Addr → List Ent → Prop) (b : Nat) (W : World) (p : Addr) (st : List Ent) : Prop where
  q : ∃ S, Q W S p st ∧ ∀ k ∈ S, b ≤ k
  ok : AudSt st
theorem LG.below {I : World → Prop} {Q : World → List Nat → Addr → List Ent → Prop} (C : LogOk I Q) {b : Nat} {W W' : World} {p : Addr} {st : List Ent} (h : LG Q b W p st) (k : Below W.heap.size W W') : LG Q b W' p st := by
  obtain ⟨S, h1, h2⟩ := h.q
  exact ⟨⟨S, C.below h1 k, h2⟩, h.ok⟩
/-- An entry added: what lies below b, or was made since X, is as it was. -/
theorem LG.add {I : World → Prop} {Q : World → List Nat → Addr → List Ent → Prop} (C : LogOk I Q) {b : Nat} {X W : World} {p : Addr} {st : List Ent} (e : Ent) (he : e.Small) (h : LG Q b X p st) (hX : Below X.heap.size X W) (hb : b ≤ X.heap.size) (hl : st.length ≤ 200) (hI : I W) :
    Calls Tryd.prog 12 #[.pointer (some p), .agg (ecs e).toArray] W fun r w' => r = .returned (.int .i64 (audErr st e)) ∧ LG Q b w' p (audAdd st e) ∧ Below b W w' ∧ ∀ k, X.heap.size ≤ k → k < W.heap.size → w'.heap[k]? = W.heap[k]? ∧ ∀ W2, (∀ j, j ≠ k → W2.heap[j]? = w'.heap[j]?) → LG Q b W2 p (audAdd st e) := by
  obtain ⟨S, h1, h2⟩ := h.q
  have h3 := C.below h1 hX
  refine (C.add e he W hI h3 h.ok hl).mono ?_
  rintro r w' ⟨rfl, S', hq, hT, hS⟩
  have hS2 : ∀ k ∈ S', b ≤ k := fun k hk => by
    rcases hS k hk with hk | hk
    · exact h2 k hk
    · exact Nat.le_trans (Nat.le_trans hb hX.size) hk
  refine ⟨rfl, ⟨⟨S', hq, hS2⟩, add_st h.ok e⟩, hT.below h2 (Nat.le_trans hb hX.size), fun k hk1 hk2 => ⟨hT.block k hk2 fun q => ?_, fun W2 hW2 => ⟨⟨S', C.keep hq fun j hj => hW2 j fun q => ?_, hS2⟩, add_st h.ok e⟩⟩⟩
  · have := C.lt h1 k q
    omega
  · subst q
    rcases hS j hj with hk | hk
    · have := C.lt h1 j hk
      omega
    · omega
/-- A log in the law's own world: its blocks lie from b on, and are none of F. -/
structure LGF (Q : World → List Nat → Addr → List Ent → Prop) (F : List Nat) (b : Nat) (W : World) (p : Addr) (st : List Ent) : Prop where
  q : ∃ S, Q W S p st ∧ ∀ k ∈ S, b ≤ k ∧ k ∉ F
  ok : AudSt st
  fl : ∀ k ∈ F, k < W.heap.size
section
variable {I : World → Prop} {Q : World → List Nat → Addr → List Ent → Prop} {F : List Nat} {b : Nat} {W W' : World} {p : Addr} {st : List Ent}
theorem LGF.below (C : LogOk I Q) (h : LGF Q F b W p st) (k : Below W.heap.size W W') : LGF Q F b W' p st := by
  obtain ⟨S, h1, h2⟩ := h.q
  exact ⟨⟨S, C.below h1 k, h2⟩, h.ok, fun j hj => Nat.lt_of_lt_of_le (h.fl j hj) k.size⟩
theorem LGF.turn (C : LogOk I Q) (h : LGF Q F b W p st) (hs : W.heap.size ≤ W'.heap.size) (k : ∀ j, b ≤ j → W'.heap[j]? = W.heap[j]?) : LGF Q F b W' p st := by
  obtain ⟨S, h1, h2⟩ := h.q
  exact ⟨⟨S, C.keep h1 fun j hj => k j (h2 j hj).1, h2⟩, h.ok, fun j hj => Nat.lt_of_lt_of_le (h.fl j hj) hs⟩
theorem LGF.more (C : LogOk I Q) (h : LGF Q F b W p st) (k : Below W.heap.size W W') (G : List Nat) (hG : ∀ g ∈ G, W.heap.size ≤ g ∧ g < W'.heap.size) : LGF Q (G ++ F) b W' p st := by
  obtain ⟨S, h1, h2⟩ := h.q
  refine ⟨⟨S, C.below h1 k, fun j hj => ⟨(h2 j hj).1, fun q => ?_⟩⟩, h.ok, fun j hj => ?_⟩
  · rcases List.mem_append.1 q with q | q
    · have := (hG j q).1
      have := C.lt h1 j hj
      omega
    · exact (h2 j hj).2 q
  · rcases List.mem_append.1 hj with hj | hj
    · exact (hG j hj).2
    · exact Nat.lt_of_lt_of_le (h.fl j hj) k.size
theorem LGF.add (C : LogOk I Q) (h : LGF Q F b W p st) (e : Ent) (he : e.Small) (hb : b ≤ W.heap.size) (hl : st.length ≤ 200) (hI : I W) :
    Calls Tryd.prog 12 #[.pointer (some p), .agg (ecs e).toArray] W fun r w' => r = .returned (.int .i64 (audErr st e)) ∧ LGF Q F b w' p (audAdd st e) ∧ Below b W w' ∧ ∀ k ∈ F, w'.heap[k]? = W.heap[k]? := by
  obtain ⟨S, h1, h2⟩ := h.q
  refine (C.add e he W hI h1 h.ok hl).mono ?_
  rintro r w' ⟨rfl, S', hq, hT, hS⟩
  have hB := hT.below (fun k hk => (h2 k hk).1) hb
  refine ⟨rfl, ⟨⟨S', hq, fun k hk => ?_⟩, add_st h.ok e, fun k hk => Nat.lt_of_lt_of_le (h.fl k hk) hB.size⟩, hB, fun k hk => hT.block k (h.fl k hk) fun q => (h2 k q).2 hk⟩
  rcases hS k hk with hk | hk
  · exact h2 k hk
  · exact ⟨Nat.le_trans hb hk, fun q => by have := h.fl k q; omega⟩
end
theorem run_field_lab (e : Ent) (w : World) : (Instr.field 26 (.agg (ecs e).toArray) 1).run Tryd.prog w = .ok (.agg (lab4 e.label).toArray) w := by
  have h1 := Tryd.underlying26
  have h2 : (Tryd.prog.info? 23).map (·.size) = some 4 := by kernel_rfl
  have h3 := Tryd.underlying23
  obtain ⟨i, hi, hs⟩ : ∃ i, Tryd.prog.info? 23 = some i ∧ i.size = 4 := by
    cases hq : Tryd.prog.info? 23 with
    | none => rw [hq] at h2; cases h2
    | some i => rw [hq] at h2; exact ⟨i, rfl, Option.some.inj h2⟩
  unfold ecs Instr.field
  simp only [Sem.run_bind]
  go_simp
  try simp [part, sizeOf, typeInfo, hi, hs, h3, TypeDesc.isRow]
  rfl
section
variable {ops : Array Oper} {o : Oper} {a : Act} {w : World} {Q : Exit → Act → World → Prop} {rest : List Oper}
theorem wpList_field_lab (hg : o.guard = none) (x : Operand) (ho : o.op = .field 26 x 1) (e : Ent) (hx : a.eval x = .agg (ecs e).toArray) (h : wpList Tryd.prog ops Q rest (a.put o.dst (.agg (lab4 e.label).toArray)) w) : wpList Tryd.prog ops Q (o :: rest) a w := by
  refine wpList_value hg ?_ h
  unfold execOp
  have hr := run_field_lab e w
  simp only [ho, hx, Sem.run_bind, hr, Result.andThen_ok]
  rfl
end
end Go.Proofs.YtohocomemkckeaaDoor

/-! MAPS OF THE PROGRAM'S OWN, KEYED BY LABELS, of integers: what is looked up, and what m[k]++ leaves. For every stage from the twelfth on. -/
namespace Go.Proofs.YtohocomemkckeaaDoor
open Go.RowKit Go.ChangeShapes Go.WideShapes
set_option maxRecDepth 8000
set_option linter.unusedSimpArgs false
set_option linter.unusedVariables false

theorem labOut : laidOutB Tryd.prog = true := by kernel_rfl
theorem labRow : (23 : TypeId) < Tryd.prog.types.size := of_decide_eq_true (by kernel_rfl)
theorem labWide : (match Tryd.prog.underlying 23 with | some (.array _ _) | some (.struct _) => true | _ => false) = true := by kernel_rfl
theorem labLaw : WideMaps.KeyLaw Tryd.prog 23 := deep_law_laid labOut (m := 2) (by omega) labRow (by kernel_rfl) labWide
theorem labKeyT : Tryd.prog.keyType 23 = true := by kernel_rfl
theorem labCells : Tryd.prog.cellsOf 23 = 4 := by kernel_rfl
theorem labInt : Tryd.prog.cellsOf 3 = 1 := by kernel_rfl
theorem labFs : (Tryd.prog.fieldsOf 23).toList.map (fun f => (f.name != "_", f.type, f.offset)) = [(true, 3, 0), (true, 3, 1), (true, 3, 2), (true, 3, 3)] := by kernel_rfl
theorem labTs : ∃ n, Tryd.prog.types.size = n + 1 := ⟨Tryd.prog.types.size - 1, (Nat.succ_pred_eq_of_pos (Nat.lt_of_le_of_lt (Nat.zero_le _) labRow)).symm⟩
theorem lab_wf {n : Int} (h0 : 0 ≤ n) (h1 : n ≤ 255) : (Lit.int .i64 n).wf = true := WalkArith.wf_i64 (by omega)
theorem lits_int (d : Nat) {n : Int} (h0 : 0 ≤ n) (h1 : n ≤ 255) : Tryd.prog.keyLits (d + 1) 3 [.int .i64 n] = some [.int .i64 n] := by
  unfold Program.keyLits
  rw [Tryd.underlying3]
  simp [lab_wf h0 h1]
theorem labKey {x : Lab} (hx : GL x) : ∃ l, keyOf Tryd.prog 23 x.v = some l := by
  obtain ⟨n, hn⟩ := labTs
  have hf : (Value.agg #[.int .i64 x.s, .int .i64 x.c, .int .i64 x.i, .int .i64 x.k]).formed Tryd.prog 23 = true := by
    unfold Value.formed
    rw [und, labCells]
    rfl
  have hnm : (Tryd.prog.fieldsOf 23).all (·.name != "_") = true := by kernel_rfl
  have hl : Tryd.prog.keyLits (Tryd.prog.types.size + 1) 23 [.int .i64 x.s, .int .i64 x.c, .int .i64 x.i, .int .i64 x.k] = some [.int .i64 x.s, .int .i64 x.c, .int .i64 x.i, .int .i64 x.k] := by
    unfold Program.keyLits
    rw [und]
    simp only [labCells, hnm]
    rw [if_pos (by first | exact ⟨rfl, rfl⟩ | exact ⟨rfl, trivial⟩)]
    have hm : (Tryd.prog.fieldsOf 23).toList.mapM (fun f => Tryd.prog.keyLits Tryd.prog.types.size f.type (([.int .i64 x.s, .int .i64 x.c, .int .i64 x.i, .int .i64 x.k] : List Value).drop f.offset |>.take (Tryd.prog.cellsOf f.type))) = ((Tryd.prog.fieldsOf 23).toList.map (fun f => (f.name != "_", f.type, f.offset))).mapM (fun p : Bool × TypeId × Nat => Tryd.prog.keyLits Tryd.prog.types.size p.2.1 (([.int .i64 x.s, .int .i64 x.c, .int .i64 x.i, .int .i64 x.k] : List Value).drop p.2.2 |>.take (Tryd.prog.cellsOf p.2.1))) := by
      rw [List.mapM_map]
      rfl
    rw [hm, labFs, hn]
    simp only [List.mapM_cons, List.mapM_nil, labInt, List.drop_zero, List.drop_succ_cons, List.take_succ_cons, List.take_zero, List.take_nil]
    rw [lits_int n hx.s0 (by have := hx.s1; omega), lits_int n hx.c0 hx.c1, lits_int n hx.i0 (by have := hx.i1; omega), lits_int n hx.k0 hx.k1]
    rfl
  refine ⟨.string (keyBytes [.int .i64 x.s, .int .i64 x.c, .int .i64 x.i, .int .i64 x.k]), ?_⟩
  unfold keyOf
  rw [und]
  simp only [labKeyT, hf, Bool.true_and, if_true]
  rw [show (Value.agg #[.int .i64 x.s, .int .i64 x.c, .int .i64 x.i, .int .i64 x.k]).cells.toList = [.int .i64 x.s, .int .i64 x.c, .int .i64 x.i, .int .i64 x.k] from rfl, hl]
  rfl
theorem labV_inj {x y : Lab} (h : x.v = y.v) : x = y := by
  obtain ⟨a, b, c, d⟩ := x
  obtain ⟨a', b', c', d'⟩ := y
  simp [Lab.v] at h
  obtain ⟨rfl, rfl, rfl, rfl⟩ := h
  rfl
/-- A map's entries: each label's number, no label twice. -/
structure CEs (es : Array MapEntry) (clock : Nat) (f : Lab → Nat) : Prop where
  born : ∀ e ∈ es.toList, e.born < clock
  nod : (es.toList.map (·.born)).Nodup
  ent : ∀ e ∈ es.toList, ∃ x : Lab, GL x ∧ e.key = x.v ∧ e.val = .int .i64 ((f x : Nat) : Int)
  uniq : (es.toList.map (·.key)).Nodup
  has : ∀ x, 0 < f x → ∃ e ∈ es.toList, e.key = x.v
/-- At b lies such a map, with m entries at most. -/
def MapL (W : World) (b : Nat) (f : Lab → Nat) (m : Nat) : Prop := ∃ es clock, W.heap[b]? = some (.map es clock) ∧ CEs es clock f ∧ es.size ≤ m
theorem CEs.keys {es : Array MapEntry} {clock : Nat} {f : Lab → Nat} (h : CEs es clock f) : ∀ e ∈ es.toList, ∃ l, keyOf Tryd.prog 23 e.key = some l := fun e he => by
  obtain ⟨x, hx, hk, _⟩ := h.ent e he
  rw [hk]
  exact labKey hx
theorem CEs.val {es : Array MapEntry} {clock : Nat} {f : Lab → Nat} (h : CEs es clock f) {e : MapEntry} (he : e ∈ es.toList) {x : Lab} (hk : e.key = x.v) : e.val = .int .i64 ((f x : Nat) : Int) := by
  obtain ⟨y, _, hy, hv⟩ := h.ent e he
  rw [hv, labV_inj (hy.symm.trans hk)]
theorem MapL.same {W W' : World} {b m : Nat} {f : Lab → Nat} (h : MapL W b f m) (hb : W'.heap[b]? = W.heap[b]?) : MapL W' b f m := by
  obtain ⟨es, clock, h1, h2, h3⟩ := h
  exact ⟨es, clock, hb.trans h1, h2, h3⟩
theorem MapL.lt {W : World} {b m : Nat} {f : Lab → Nat} (h : MapL W b f m) : b < W.heap.size := by
  obtain ⟨es, clock, h1, h2⟩ := h
  exact (Array.getElem?_eq_some_iff.1 h1).1
theorem mapL_made (W : World) : MapL (W.alloc (.map #[] 0)) W.heap.size (fun _ => 0) 0 :=
  ⟨#[], 0, (MapKept.heap_alloc W _).1, ⟨fun e he => (by simp at he), List.nodup_nil, fun e he => (by simp at he), List.nodup_nil, fun x hx => (by cases hx)⟩, by simp⟩
/-- Nothing has turned but that block. -/
structure Turn1 (b : Nat) (w w' : World) : Prop where
  os : w'.os = w.os
  tape : w'.tape = w.tape
  output : w'.output = w.output
  size : w'.heap.size = w.heap.size
  block : ∀ k, k ≠ b → w'.heap[k]? = w.heap[k]?
theorem turn1_set (w : World) (b : Nat) (o : Obj) : Turn1 b w (ChangeMaps.setBlock w b o) := ⟨rfl, rfl, rfl, by simp [ChangeMaps.setBlock], fun k hk => by simp [ChangeMaps.setBlock, Array.getElem?_setIfInBounds, Ne.symm hk]⟩
theorem set_at {w : World} {b : Nat} (h : b < w.heap.size) (o : Obj) : (ChangeMaps.setBlock w b o).heap[b]? = some o := by simp [ChangeMaps.setBlock, Array.getElem?_setIfInBounds, h]
end Go.Proofs.YtohocomemkckeaaDoor

/-! maps.Keys OVER A MAP KEYED BY LABELS: its iterator gives each key once. For every stage from the twelfth on. -/
namespace Go.Proofs.YtohocomemkckeaaDoor
open Go.RowKit Go.ChangeMaps
set_option maxRecDepth 8000
set_option linter.unusedSimpArgs false
set_option linter.unusedVariables false

/-- Under way: b is the map, r its iterator, dn have come, and these are ss. -/
structure RngL (W : World) (b r : Nat) (es : Array MapEntry) (clock : Nat) (seen : Array Nat) (c0 : Nat) (dn : List MapEntry) (ss : List Lab) : Prop where
  map : W.heap[b]? = some (.map es clock)
  it : W.heap[r]? = some (.mapIter (some b) clock seen c0)
  c0 : clock ≤ c0
  seen : seen.toList = dn.map (·.born)
  sub : ∀ e ∈ dn, e ∈ es.toList
  nod : (dn.map (·.born)).Nodup
  keys : dn.map (·.key) = ss.map Lab.v
/-- What has come, once all have. -/
structure SKeys (f : Lab → Nat) (m : Nat) (xs : List Lab) : Prop where
  nod : xs.Nodup
  has : ∀ x, 0 < f x → x ∈ xs
  good : ∀ x ∈ xs, GL x
  len : xs.length ≤ m
section
variable {W W' : World} {b r clock c0 m : Nat} {es : Array MapEntry} {seen : Array Nat} {dn : List MapEntry} {ss : List Lab} {f : Lab → Nat}
theorem RngL.kept (h : RngL W b r es clock seen c0 dn ss) (k : KeepsWalks W W') : RngL W' b r es clock seen c0 dn ss := ⟨k.same b _ h.map rfl, k.same r _ h.it rfl, h.c0, h.seen, h.sub, h.nod, h.keys⟩
theorem nodup_len {α : Type} [DecidableEq α] : ∀ (l1 l2 : List α), l1.Nodup → (∀ x ∈ l1, x ∈ l2) → l1.length ≤ l2.length
  | [], _, _, _ => Nat.zero_le _
  | a :: l, l2, hn, hs => by
    obtain ⟨h1, h2⟩ := List.nodup_cons.1 hn
    have ha := hs a (List.mem_cons_self)
    have h3 := nodup_len l (l2.erase a) h2 fun x hx => (List.mem_erase_of_ne (fun e : x = a => h1 (by rw [← e]; exact hx))).2 (hs x (List.mem_cons_of_mem _ hx))
    have h4 := List.length_erase_of_mem ha
    have h5 := List.length_pos_of_mem ha
    simp only [List.length_cons]
    omega
theorem RngL.few (h : RngL W b r es clock seen c0 dn ss) : ss.length ≤ es.size := by
  have h1 := nodup_len (dn.map (·.born)) (es.toList.map (·.born)) h.nod fun x hx => by
    obtain ⟨e, he, rfl⟩ := List.mem_map.1 hx
    exact List.mem_map.2 ⟨e, h.sub e he, rfl⟩
  have h2 := congrArg List.length h.keys
  simp at h1 h2
  omega
theorem labv_map_nodup : ∀ {ss : List Lab}, (ss.map Lab.v).Nodup → ss.Nodup
  | [], _ => List.nodup_nil
  | a :: l, h => by
    obtain ⟨h1, h2⟩ := List.nodup_cons.1 h
    exact List.nodup_cons.2 ⟨fun hm => h1 (List.mem_map.2 ⟨a, hm, rfl⟩), labv_map_nodup h2⟩
theorem born_key {es : Array MapEntry} (hn : (es.toList.map (·.born)).Nodup) (hk : (es.toList.map (·.key)).Nodup) : ∀ {dn : List MapEntry}, (∀ e ∈ dn, e ∈ es.toList) → (dn.map (·.born)).Nodup → (dn.map (·.key)).Nodup
  | [], _, _ => List.nodup_nil
  | a :: l, hs, hb => by
    obtain ⟨h1, h2⟩ := List.nodup_cons.1 hb
    refine List.nodup_cons.2 ⟨fun hm => ?_, born_key hn hk (fun e he => hs e (List.mem_cons_of_mem _ he)) h2⟩
    obtain ⟨e, he, hek⟩ := List.mem_map.1 hm
    obtain ⟨i, hi⟩ := List.mem_iff_getElem?.1 (hs a List.mem_cons_self)
    obtain ⟨j, hj⟩ := List.mem_iff_getElem?.1 (hs e (List.mem_cons_of_mem _ he))
    have hil := (List.getElem?_eq_some_iff.1 hi).1
    have e1 : (es.toList.map (·.key))[i]? = (es.toList.map (·.key))[j]? := by rw [List.getElem?_map, List.getElem?_map, hi, hj]; simp [hek]
    have e2 := (List.getElem?_inj (by simpa using hil) hk).1 e1
    subst e2
    obtain rfl := Option.some.inj (hi.symm.trans hj)
    exact h1 (List.mem_map.2 ⟨a, he, rfl⟩)
theorem RngL.done (h : RngL W b r es clock seen c0 dn ss) (hC : CEs es clock f) (hm : es.size ≤ m) (h0 : (leftOf es seen).size = 0) : SKeys f m ss := by
  have hall : ∀ e ∈ es.toList, e ∈ dn := fun e he => by
    have h1 : leftOf es seen = #[] := Array.eq_empty_of_size_eq_zero h0
    unfold leftOf at h1
    have h2 := (Array.filter_eq_empty_iff.1 h1) e (by simpa using he)
    have h3 : e.born ∈ seen.toList := by simpa using h2
    rw [h.seen] at h3
    obtain ⟨e2, he2, hb⟩ := List.mem_map.1 h3
    obtain ⟨i, hi⟩ := List.mem_iff_getElem?.1 he
    obtain ⟨j, hj⟩ := List.mem_iff_getElem?.1 (h.sub e2 he2)
    have hil := (List.getElem?_eq_some_iff.1 hi).1
    have e1 : (es.toList.map (·.born))[i]? = (es.toList.map (·.born))[j]? := by rw [List.getElem?_map, List.getElem?_map, hi, hj]; simp [hb]
    have e3 := (List.getElem?_inj (by simpa using hil) hC.nod).1 e1
    subst e3
    obtain rfl := Option.some.inj (hi.symm.trans hj)
    exact he2
  have hmem : ∀ x, x ∈ ss ↔ ∃ e ∈ dn, e.key = x.v := fun x => by
    constructor
    · intro hx
      have : x.v ∈ dn.map (·.key) := by rw [h.keys]; exact List.mem_map.2 ⟨x, hx, rfl⟩
      obtain ⟨e, he, hk⟩ := List.mem_map.1 this
      exact ⟨e, he, hk⟩
    · rintro ⟨e, he, hk⟩
      have : e.key ∈ ss.map Lab.v := by rw [← h.keys]; exact List.mem_map.2 ⟨e, he, rfl⟩
      obtain ⟨y, hy, hv⟩ := List.mem_map.1 this
      rw [← labV_inj (hv.trans hk)]
      exact hy
  refine ⟨?_, fun x hx => ?_, fun x hx => ?_, Nat.le_trans h.few hm⟩
  · apply labv_map_nodup
    rw [← h.keys]
    exact born_key hC.nod hC.uniq h.sub h.nod
  · obtain ⟨e, he, hk⟩ := hC.has x hx
    exact (hmem x).2 ⟨e, hall e he, hk⟩
  · obtain ⟨e, he, hk⟩ := (hmem x).1 hx
    obtain ⟨y, hy, hv, -⟩ := hC.ent e (h.sub e he)
    rw [labV_inj (hk.symm.trans hv)]
    exact hy
theorem RngL.next (h : RngL W b r es clock seen c0 dn ss) {e : MapEntry} (he : e ∈ (leftOf es seen).toList) {x : Lab} (hx : e.key = x.v) (hne : r ≠ b) {W1 : World} (h1 : W1.heap[b]? = W.heap[b]?) (h2 : W1.heap[r]? = some (.mapIter (some b) clock (seen.push e.born) clock)) : RngL W1 b r es clock (seen.push e.born) clock (dn ++ [e]) (ss ++ [x]) := by
  unfold leftOf at he
  simp at he
  refine ⟨h1.trans h.map, h2, Nat.le_refl _, by simp [h.seen], fun y hy => ?_, ?_, by simp [h.keys, hx]⟩
  · simp at hy
    rcases hy with hy | rfl
    · exact h.sub y hy
    · simpa using he.1
  · rw [List.map_append]
    refine List.nodup_append.2 ⟨h.nod, by simp, fun a ha c hc e1 => ?_⟩
    simp at hc
    rw [← h.seen] at ha
    subst e1 hc
    exact he.2 (by simpa using ha)
end
def seenN (W : World) (r : Nat) : Nat := match W.heap[r]? with | some (.mapIter _ _ seen _) => seen.size | _ => 0
theorem RngL.seenN {W : World} {b r clock c0 : Nat} {es : Array MapEntry} {seen : Array Nat} {dn : List MapEntry} {ss : List Lab} (h : RngL W b r es clock seen c0 dn ss) : seenN W r = ss.length := by
  unfold Go.Proofs.YtohocomemkckeaaDoor.seenN
  rw [h.it]
  have h1 := congrArg List.length h.seen
  have h2 := congrArg List.length h.keys
  simp at h1 h2
  show seen.size = _
  omega
end Go.Proofs.YtohocomemkckeaaDoor

/-! MAPS OF THE PROGRAM'S OWN, KEYED BY LABELS, of whatever values: what is looked up, what m[k] = v leaves, what a range over one meets. For every stage from the fourteenth on. -/
namespace Go.Proofs.YtohocomemkckeaaDoor
open Go.RowKit Go.ChangeShapes Go.WideShapes Go.ChangeMaps
set_option maxRecDepth 8000
set_option linter.unusedSimpArgs false
set_option linter.unusedVariables false

/-- A map's entries: each label's value, for those labels that are live, and no other ones. -/
structure GEs (es : Array MapEntry) (clock : Nat) (val : Lab → Value) (live : Lab → Bool) : Prop where
  born : ∀ e ∈ es.toList, e.born < clock
  nod : (es.toList.map (·.born)).Nodup
  ent : ∀ e ∈ es.toList, ∃ x : Lab, GL x ∧ e.key = x.v ∧ e.val = val x ∧ live x = true
  uniq : (es.toList.map (·.key)).Nodup
  has : ∀ x, live x = true → ∃ e ∈ es.toList, e.key = x.v
/-- At b lies such a map, with m entries at most. -/
def MapG (W : World) (b : Nat) (val : Lab → Value) (live : Lab → Bool) (m : Nat) : Prop := ∃ es clock, W.heap[b]? = some (.map es clock) ∧ GEs es clock val live ∧ es.size ≤ m
section
variable {es : Array MapEntry} {clock : Nat} {val : Lab → Value} {live : Lab → Bool}
theorem GEs.keys (h : GEs es clock val live) : ∀ e ∈ es.toList, ∃ l, keyOf Tryd.prog 23 e.key = some l := fun e he => by
  obtain ⟨x, hx, hk, _⟩ := h.ent e he
  rw [hk]
  exact labKey hx
theorem GEs.val_eq (h : GEs es clock val live) {e : MapEntry} (he : e ∈ es.toList) {x : Lab} (hk : e.key = x.v) : e.val = val x ∧ live x = true := by
  obtain ⟨y, _, hy, hv, hl⟩ := h.ent e he
  obtain rfl := labV_inj (hy.symm.trans hk)
  exact ⟨hv, hl⟩
theorem GEs.dead (h : GEs es clock val live) {x : Lab} (hn : ∀ e ∈ es.toList, e.key ≠ x.v) : live x = false := by
  cases hq : live x
  · rfl
  · obtain ⟨e, he, hk⟩ := h.has x hq
    exact absurd hk (hn e he)
end
section
variable {W W' : World} {b m : Nat} {val : Lab → Value} {live : Lab → Bool}
theorem MapG.same (h : MapG W b val live m) (hb : W'.heap[b]? = W.heap[b]?) : MapG W' b val live m := by
  obtain ⟨es, clock, h1, h2, h3⟩ := h
  exact ⟨es, clock, hb.trans h1, h2, h3⟩
theorem MapG.lt (h : MapG W b val live m) : b < W.heap.size := by
  obtain ⟨es, clock, h1, h2⟩ := h
  exact (Array.getElem?_eq_some_iff.1 h1).1
theorem MapG.more (h : MapG W b val live m) {n : Nat} (hn : m ≤ n) : MapG W b val live n := by
  obtain ⟨es, clock, h1, h2, h3⟩ := h
  exact ⟨es, clock, h1, h2, Nat.le_trans h3 hn⟩
theorem MapG.turn (h : MapG W b val live m) {val' : Lab → Value} {live' : Lab → Bool} (hv : ∀ x, GL x → val' x = val x) (hl : ∀ x, live' x = live x) : MapG W b val' live' m := by
  obtain ⟨es, clock, h1, h2, h3⟩ := h
  refine ⟨es, clock, h1, ⟨h2.born, h2.nod, fun e he => ?_, h2.uniq, fun x hx => h2.has x (by rw [← hl]; exact hx)⟩, h3⟩
  obtain ⟨x, hx, hk, hv1, hl1⟩ := h2.ent e he
  exact ⟨x, hx, hk, by rw [hv x hx]; exact hv1, by rw [hl]; exact hl1⟩
theorem mapG_made (W : World) (val : Lab → Value) : MapG (W.alloc (.map #[] 0)) W.heap.size val (fun _ => false) 0 :=
  ⟨#[], 0, (MapKept.heap_alloc W _).1, ⟨fun e he => (by simp at he), List.nodup_nil, fun e he => (by simp at he), List.nodup_nil, fun x hx => (by cases hx)⟩, by simp⟩
/-- Looked up: the label's value; a label that is not there has the type's zero. -/
theorem lookG_run {T ET : TypeId} {z : Value} (hu : Tryd.prog.underlying T = some (.map 23 ET)) (hz : ∀ w, (zeroValue ET).run Tryd.prog w = .ok z w) (h : MapG W b val live m) {x : Lab} (hx : GL x) (hd : live x = false → val x = z) : (Instr.lookup T (.map (some b)) x.v false).run Tryd.prog W = .ok (val x) W := by
  obtain ⟨es, clock, hb, hC, hm⟩ := h
  obtain ⟨lx, hlx⟩ := labKey hx
  rcases labLaw.find W hlx es.toList hC.keys with ⟨h1, h2⟩ | ⟨j, e0, h1, h2, h3⟩
  · rw [hd (hC.dead h2)]
    simp [Instr.lookup, run_underlying hu, MapKept.run_getObj_map hb, labLaw.check W _ hlx, h1, hz, Result.andThen]
  · have hv := (hC.val_eq (List.mem_of_getElem? h2) h3).1
    simp [Instr.lookup, run_underlying hu, MapKept.run_getObj_map hb, labLaw.check W _ hlx, h1, hv, Result.andThen]
theorem lookN_run {T ET : TypeId} {z : Value} (hu : Tryd.prog.underlying T = some (.map 23 ET)) (hz : ∀ w, (zeroValue ET).run Tryd.prog w = .ok z w) (W : World) {x : Lab} (hx : GL x) : (Instr.lookup T (.map none) x.v false).run Tryd.prog W = .ok z W := by
  obtain ⟨lx, hlx⟩ := labKey hx
  rcases labLaw.find W hlx [] (by simp) with ⟨h1, -⟩ | ⟨j, e0, -, h2, -⟩
  · simp [Instr.lookup, run_underlying hu, labLaw.check W _ hlx, h1, hz, Result.andThen]
  · simp at h2
/-- m[x] = v. -/
theorem updG_run {T ET : TypeId} (hu : Tryd.prog.underlying T = some (.map 23 ET)) (h : MapG W b val live m) {x : Lab} (hx : GL x) (v : Value) {val' : Lab → Value} {live' : Lab → Bool} (hv : ∀ y, val' y = if labEq x y = true then v else val y) (hl : ∀ y, live' y = (labEq x y || live y)) :
    ∃ W1, (Instr.mapUpdate T (.map (some b)) x.v v).run Tryd.prog W = .ok () W1 ∧ MapG W1 b val' live' (m + 1) ∧ Turn1 b W W1 := by
  have hlt := h.lt
  obtain ⟨es, clock, hb, hC, hm⟩ := h
  obtain ⟨lx, hlx⟩ := labKey hx
  rcases labLaw.find W hlx es.toList hC.keys with ⟨h1, h2⟩ | ⟨j, e0, h1, h2, h3⟩
  · refine ⟨ChangeMaps.setBlock W b (.map (es.push ⟨x.v, v, clock⟩) (clock + 1)), ?_, ⟨_, _, set_at hlt _, ?_, by simp; omega⟩, turn1_set _ _ _⟩
    · simp [Instr.mapUpdate, run_underlying hu, MapKept.run_getObj_map hb, labLaw.check W false hlx, h1, MapKept.run_setObj_map _ hb, Result.andThen, ChangeMaps.setBlock]
    · refine ⟨fun e he => ?_, ?_, fun e he => ?_, ?_, fun y hy => ?_⟩
      · simp at he
        rcases he with he | rfl
        · have := hC.born e (by simpa using he); omega
        · exact Nat.lt_succ_self _
      · simp only [Array.toList_push, List.map_append, List.map_cons, List.map_nil]
        refine List.nodup_append.2 ⟨hC.nod, by simp, fun a ha c hc e1 => ?_⟩
        simp only [List.mem_singleton] at hc
        obtain ⟨z, hz, rfl⟩ := List.mem_map.1 ha
        have := hC.born z hz
        omega
      · simp at he
        rcases he with he | rfl
        · obtain ⟨y, hy, hk, hv1, hl1⟩ := hC.ent e (by simpa using he)
          refine ⟨y, hy, hk, ?_, by rw [hl, hl1]; simp⟩
          rw [hv, if_neg, hv1]
          intro q
          rw [← (labEq_iff _ _).1 q] at hk
          exact h2 e (by simpa using he) hk
        · exact ⟨x, hx, rfl, by rw [hv, if_pos ((labEq_iff _ _).2 rfl)], by rw [hl, (labEq_iff x x).2 rfl]; rfl⟩
      · simp only [Array.toList_push, List.map_append, List.map_cons, List.map_nil]
        refine List.nodup_append.2 ⟨hC.uniq, by simp, fun a ha c hc e1 => ?_⟩
        simp only [List.mem_singleton] at hc
        obtain ⟨z, hz, rfl⟩ := List.mem_map.1 ha
        exact h2 z hz (e1.trans hc)
      · rw [hl] at hy
        cases q : labEq x y
        · rw [q] at hy
          obtain ⟨e, he, hk⟩ := hC.has y hy
          exact ⟨e, by simp at he ⊢; exact .inl he, hk⟩
        · exact ⟨⟨x.v, v, clock⟩, by simp, by rw [(labEq_iff _ _).1 q]⟩
  · have hj : es[j]? = some e0 := by simpa using h2
    have hjl := (List.getElem?_eq_some_iff.1 h2).1
    have hset : (es.modify j (fun e => { e with key := x.v, val := v })).toList = es.toList.set j { e0 with key := x.v, val := v } := by
      rw [Array.toList_modify, ChangeMaps.modify_eq_set _ _ _ _ h2]
    refine ⟨ChangeMaps.setBlock W b (.map (es.modify j (fun e => { e with key := x.v, val := v })) clock), ?_, ⟨_, _, set_at hlt _, ?_, by simp; omega⟩, turn1_set _ _ _⟩
    · simp [Instr.mapUpdate, run_underlying hu, MapKept.run_getObj_map hb, labLaw.check W false hlx, h1, hj, h3, labLaw.stays W hlx, MapKept.run_setObj_map _ hb, Result.andThen, ChangeMaps.setBlock]
    · have hmb : (es.toList.set j { e0 with key := x.v, val := v }).map (·.born) = es.toList.map (·.born) := by
        rw [List.map_set]
        exact WideElems.set_self _ _ _ (by rw [List.getElem?_map, h2]; rfl)
      have hmk : (es.toList.set j { e0 with key := x.v, val := v }).map (·.key) = es.toList.map (·.key) := by
        rw [List.map_set]
        exact WideElems.set_self _ _ _ (by rw [List.getElem?_map, h2]; simp [h3])
      refine ⟨fun e he => ?_, by rw [hset, hmb]; exact hC.nod, fun e he => ?_, by rw [hset, hmk]; exact hC.uniq, fun y hy => ?_⟩
      · rw [hset] at he
        rcases List.mem_or_eq_of_mem_set he with he | rfl
        · exact hC.born e he
        · exact hC.born e0 (List.mem_of_getElem? h2)
      · rw [hset] at he
        obtain ⟨i, hi⟩ := List.mem_iff_getElem?.1 he
        by_cases hij : i = j
        · subst hij
          rw [List.getElem?_set_self hjl] at hi
          obtain rfl := Option.some.inj hi
          exact ⟨x, hx, rfl, by rw [hv, if_pos ((labEq_iff _ _).2 rfl)], by rw [hl, (labEq_iff x x).2 rfl]; rfl⟩
        · rw [List.getElem?_set_ne (Ne.symm hij)] at hi
          obtain ⟨y, hy, hk, hv1, hl1⟩ := hC.ent e (List.mem_of_getElem? hi)
          refine ⟨y, hy, hk, ?_, by rw [hl, hl1]; simp⟩
          rw [hv, if_neg, hv1]
          intro q
          have hxy := (labEq_iff _ _).1 q
          have hil := (List.getElem?_eq_some_iff.1 hi).1
          have h4 : (es.toList.map (·.key))[i]? = (es.toList.map (·.key))[j]? := by rw [List.getElem?_map, List.getElem?_map, hi, h2]; simp [hk, h3, hxy]
          exact hij ((List.getElem?_inj (by simpa using hil) hC.uniq).1 h4)
      · rw [hset]
        rw [hl] at hy
        cases q : labEq x y
        · rw [q] at hy
          obtain ⟨e, he, hk⟩ := hC.has y hy
          obtain ⟨i, hi⟩ := List.mem_iff_getElem?.1 he
          have hij : i ≠ j := fun e1 => by
            subst e1
            obtain rfl := Option.some.inj (hi.symm.trans h2)
            have := (labEq_iff x y).2 (labV_inj (h3.symm.trans hk))
            rw [q] at this
            cases this
          exact ⟨e, List.mem_of_getElem? (by rw [List.getElem?_set_ne (Ne.symm hij)]; exact hi), hk⟩
        · refine ⟨_, List.mem_set hjl _, ?_⟩
          rw [← (labEq_iff _ _).1 q]
end
/-- What a range has met, once all have come: each live label once. -/
structure LKeys (live : Lab → Bool) (m : Nat) (xs : List Lab) : Prop where
  nod : xs.Nodup
  mem : ∀ x, x ∈ xs ↔ live x = true
  good : ∀ x ∈ xs, GL x
  len : xs.length ≤ m
section
variable {W : World} {b r clock c0 m : Nat} {es : Array MapEntry} {seen : Array Nat} {dn : List MapEntry} {ss : List Lab} {val : Lab → Value} {live : Lab → Bool}
theorem RngL.doneG (h : RngL W b r es clock seen c0 dn ss) (hC : GEs es clock val live) (hm : es.size ≤ m) (h0 : (leftOf es seen).size = 0) : LKeys live m ss := by
  have hall : ∀ e ∈ es.toList, e ∈ dn := fun e he => by
    have h1 : leftOf es seen = #[] := Array.eq_empty_of_size_eq_zero h0
    unfold leftOf at h1
    have h2 := (Array.filter_eq_empty_iff.1 h1) e (by simpa using he)
    have h3 : e.born ∈ seen.toList := by simpa using h2
    rw [h.seen] at h3
    obtain ⟨e2, he2, hb⟩ := List.mem_map.1 h3
    obtain ⟨i, hi⟩ := List.mem_iff_getElem?.1 he
    obtain ⟨j, hj⟩ := List.mem_iff_getElem?.1 (h.sub e2 he2)
    have hil := (List.getElem?_eq_some_iff.1 hi).1
    have e1 : (es.toList.map (·.born))[i]? = (es.toList.map (·.born))[j]? := by rw [List.getElem?_map, List.getElem?_map, hi, hj]; simp [hb]
    have e3 := (List.getElem?_inj (by simpa using hil) hC.nod).1 e1
    subst e3
    obtain rfl := Option.some.inj (hi.symm.trans hj)
    exact he2
  have hmem : ∀ x, x ∈ ss ↔ ∃ e ∈ dn, e.key = x.v := fun x => by
    constructor
    · intro hx
      have : x.v ∈ dn.map (·.key) := by rw [h.keys]; exact List.mem_map.2 ⟨x, hx, rfl⟩
      obtain ⟨e, he, hk⟩ := List.mem_map.1 this
      exact ⟨e, he, hk⟩
    · rintro ⟨e, he, hk⟩
      have : e.key ∈ ss.map Lab.v := by rw [← h.keys]; exact List.mem_map.2 ⟨e, he, rfl⟩
      obtain ⟨y, hy, hv⟩ := List.mem_map.1 this
      rw [← labV_inj (hv.trans hk)]
      exact hy
  refine ⟨?_, fun x => ⟨fun hx => ?_, fun hx => ?_⟩, fun x hx => ?_, Nat.le_trans h.few hm⟩
  · apply labv_map_nodup
    rw [← h.keys]
    exact born_key hC.nod hC.uniq h.sub h.nod
  · obtain ⟨e, he, hk⟩ := (hmem x).1 hx
    exact (hC.val_eq (h.sub e he) hk).2
  · obtain ⟨e, he, hk⟩ := hC.has x hx
    exact (hmem x).2 ⟨e, hall e he, hk⟩
  · obtain ⟨e, he, hk⟩ := (hmem x).1 hx
    obtain ⟨y, hy, hv, -⟩ := hC.ent e (h.sub e he)
    rw [labV_inj (hk.symm.trans hv)]
    exact hy
end
end Go.Proofs.YtohocomemkckeaaDoor

/-! A LABEL'S SHEET AS IT LANDED: an array of forty entries and their number; a map from labels to sheets; the log over it. -/
namespace Go.Proofs.YtohocomemkckeaaDoor
open Go.RowKit
set_option maxRecDepth 8000
set_option linter.unusedSimpArgs false
set_option linter.unusedVariables false

def zEnt : Ent := ⟨0, ⟨0, 0, 0, 0⟩, ⟨#[]⟩, 0, ⟨#[]⟩, 0⟩
/-- A sheet's cells. -/
def scs (xs : List Ent) : List Value := (xs ++ List.replicate (40 - xs.length) zEnt).flatMap ecs ++ [.int .i64 (xs.length : Int)]
theorem scs_front {xs : List Ent} (h : xs.length ≤ 40) : ((xs ++ List.replicate (40 - xs.length) zEnt).flatMap ecs).length = 360 := by
  rw [flat_length ecs_len]
  simp
  omega
theorem scs_len {xs : List Ent} (h : xs.length ≤ 40) : (scs xs).length = 361 := by
  unfold scs
  rw [List.length_append, scs_front h]
  rfl
theorem scs_cnt {xs : List Ent} (h : xs.length ≤ 40) : (scs xs)[360]? = some (.int .i64 (xs.length : Int)) := by
  unfold scs
  rw [List.getElem?_append_right (by rw [scs_front h]; exact Nat.le_refl _), scs_front h]
  rfl
theorem scs_one (xs : List Ent) : ∀ v ∈ scs xs, v.oneCell' = true := fun v hv => by
  unfold scs at hv
  rcases List.mem_append.1 hv with hv | hv
  · obtain ⟨e, _, he⟩ := List.mem_flatMap.1 hv
    exact ent_one e v he
  · simp at hv
    subst hv
    rfl
theorem scs_row {W : World} {g : Nat} {xs : List Ent} (h : Blk W g (scs xs)) : RowE W (some ⟨g, 0, none⟩) xs := fun j x hx => by
  refine ⟨_, rfl, fun i hi => ?_⟩
  rw [add_at]
  have hj := (List.getElem?_eq_some_iff.1 hx).1
  have h1 : (xs ++ List.replicate (40 - xs.length) zEnt)[j]? = some x := by rw [List.getElem?_append_left hj]; exact hx
  have h2 := flat_at ecs_len _ j i x h1 hi
  obtain ⟨v, hv⟩ : ∃ v, (ecs x)[i]? = some v := ⟨_, List.getElem?_eq_getElem (by rw [ecs_len]; exact hi)⟩
  rw [hv] at h2 ⊢
  have h3 : (scs xs)[j * 9 + i]? = some v := by
    unfold scs
    rw [List.getElem?_append_left (List.getElem?_eq_some_iff.1 h2).1]
    exact h2
  exact (h _ v h3).1
theorem setM_mid : ∀ (vs A B C : List Value), B.length = vs.length → setM (A ++ B ++ C) A.length vs = A ++ vs ++ C
  | [], A, B, C, h => by
    have : B = [] := List.length_eq_zero_iff.1 h
    subst this
    rfl
  | v :: vs, A, b :: B, C, h => by
    have h' : B.length = vs.length := by simpa using h
    show setM ((A ++ b :: B ++ C).set A.length v) (A.length + 1) vs = _
    have e : (A ++ b :: B ++ C).set A.length v = (A ++ [v]) ++ B ++ C := by
      rw [List.append_assoc, List.set_append_right _ _ (Nat.le_refl _), Nat.sub_self]
      simp
    rw [e, show A.length + 1 = (A ++ [v]).length by simp, setM_mid vs (A ++ [v]) B C h']
    simp
theorem setM_out : ∀ (vs cs : List Value) (k j : Nat), k + vs.length ≤ j → (setM cs k vs)[j]? = cs[j]?
  | [], cs, k, j, h => rfl
  | v :: vs, cs, k, j, h => by
    show (setM (cs.set k v) (k + 1) vs)[j]? = _
    simp only [List.length_cons] at h
    rw [setM_out vs (cs.set k v) (k + 1) j (by omega), List.getElem?_set_ne (by omega)]
theorem scs_add {xs : List Ent} (h : xs.length < 40) (e : Ent) : (setM (scs xs) (xs.length * 9) (ecs e)).set 360 (.int .i64 ((xs.length : Int) + 1)) = scs (xs ++ [e]) := by
  obtain ⟨m, hm⟩ : ∃ m, 40 - xs.length = m + 1 := ⟨39 - xs.length, by omega⟩
  have e1 : scs xs = xs.flatMap ecs ++ ecs zEnt ++ ((List.replicate m zEnt).flatMap ecs ++ [.int .i64 (xs.length : Int)]) := by
    unfold scs
    rw [hm, List.replicate_succ, List.flatMap_append, List.flatMap_cons]
    simp [List.append_assoc]
  have hl : (xs.flatMap ecs).length = xs.length * 9 := flat_length ecs_len _
  rw [e1, ← hl, setM_mid (ecs e) _ (ecs zEnt) _ rfl]
  have hm2 : 40 - (xs ++ [e]).length = m := by simp; omega
  have hl2 : (xs.flatMap ecs ++ ecs e ++ (List.replicate m zEnt).flatMap ecs).length = 360 := by
    rw [List.length_append, List.length_append, hl, ecs_len, flat_length ecs_len]
    simp
    omega
  rw [← List.append_assoc, List.set_append_right _ _ (by rw [hl2]; exact Nat.le_refl _), hl2]
  unfold scs
  rw [hm2]
  simp [List.append_assoc]
theorem und_s : Tryd.prog.underlying 50 = some (.map 23 56) := by kernel_rfl
theorem info_s : (Tryd.prog.info? 56).map (fun i => (i.zero, i.size)) = some (some (.agg (scs []).toArray), 361) := by kernel_rfl
theorem zero_s (w : World) : (zeroValue 56).run Tryd.prog w = .ok (.agg (scs []).toArray) w := by
  have h := info_s
  cases hq : Tryd.prog.info? 56 with
  | none => rw [hq] at h; cases h
  | some i =>
    rw [hq] at h
    have h2 : i.zero = some (.agg (scs []).toArray) := congrArg Prod.fst (Option.some.inj h)
    simp [zeroValue, typeInfo, hq, h2]
theorem size_s : (Tryd.prog.info? 56).map (·.size) = some 361 := by
  have h := info_s
  cases hq : Tryd.prog.info? 56 with
  | none => rw [hq] at h; cases h
  | some i =>
    rw [hq] at h
    exact congrArg some (congrArg Prod.snd (Option.some.inj h))
theorem size_of {xs : List Ent} (h : xs.length ≤ 40) : (Tryd.prog.info? 56).map (·.size) = some (scs xs).length := by rw [scs_len h]; exact size_s
theorem und40 : Tryd.prog.underlying 54 = some (.array 40 26) := by kernel_rfl
theorem slice40 (g n : Nat) (hn : n ≤ 40) (w : World) : (Instr.sliceAt 54 (.pointer (some ⟨g, 0, none⟩)) none (some (.int .i64 (n : Int))) none).run Tryd.prog w = .ok (.slice (some ⟨g, 0, none⟩) n 40) w := by
  obtain ⟨i, hi, hz, hs, hby⟩ := info_of (e := 26) (z := .agg zE) (sz := 9) (b := 88) (by kernel_rfl)
  have h1 : ¬ (n : Int) < 0 := by omega
  have h2 : ¬ (40 : Int) < (n : Int) := by omega
  simp [Instr.sliceAt, run_underlying und40, Instr.sureAddr, Instr.sliceBounds, Instr.sliceBound, sizeOf, typeInfo, hi, hs, Addr.add_mid, go_sem, h1, h2, hn]
theorem und_st : ∃ fs, Tryd.prog.underlying 56 = some (.struct fs) ∧ (fs[1]?).map (fun f => (f.type, f.offset)) = some (3, 360) := by
  refine ⟨Tryd.prog.fieldsOf 56, by kernel_rfl, by kernel_rfl⟩
theorem run_field_cnt {xs : List Ent} (h : xs.length ≤ 40) (w : World) : (Instr.field 56 (.agg (scs xs).toArray) 1).run Tryd.prog w = .ok (.int .i64 (xs.length : Int)) w := by
  obtain ⟨fs, h1, h2⟩ := und_st
  have h3 : (Tryd.prog.info? 3).map (·.size) = some 1 := by kernel_rfl
  obtain ⟨i, hi, hs⟩ : ∃ i, Tryd.prog.info? 3 = some i ∧ i.size = 1 := by
    cases hq : Tryd.prog.info? 3 with
    | none => rw [hq] at h3; cases h3
    | some i => rw [hq] at h3; exact ⟨i, rfl, Option.some.inj h3⟩
  have h4 := Tryd.underlying3
  obtain ⟨f, hf, hft, hfo⟩ : ∃ f, fs[1]? = some f ∧ f.type = 3 ∧ f.offset = 360 := by
    cases hq : fs[1]? with
    | none => rw [hq] at h2; cases h2
    | some f =>
      rw [hq] at h2
      have := Option.some.inj h2
      exact ⟨f, rfl, congrArg Prod.fst this, congrArg Prod.snd this⟩
  have h5 := scs_cnt h
  unfold Instr.field
  simp [Sem.run_bind, run_underlying h1, hf, hft, hfo, part, sizeOf, typeInfo, hi, hs, h4, TypeDesc.isRow, h5, Result.andThen, asAgg, go_sem]
end Go.Proofs.YtohocomemkckeaaDoor

/-! COUNTS AS THEY LANDED: a struct of one field, a map of labels to numbers: New, Add, Of. Written by mk_qmap.py. -/
namespace Go.Proofs.YtohocomemkckeaaDoor
open Go.RowKit
set_option maxRecDepth 8000
set_option linter.unusedSimpArgs false
set_option linter.unusedVariables false

theorem Turn1.blk {b : Nat} {w w' : World} (h : Turn1 b w w') {g : Nat} {cs : List Value} (hb : BlkL g cs w) (hg : g ≠ b) : BlkL g cs w' := ⟨hb.1.same (h.block g hg), by rw [h.size]; exact hb.2⟩
theorem Turn1.trans {b : Nat} {w w' w'' : World} (h : Turn1 b w w') (k : Turn1 b w' w'') : Turn1 b w w'' := ⟨k.os.trans h.os, k.tape.trans h.tape, k.output.trans h.output, k.size.trans h.size, fun j hj => (k.block j hj).trans (h.block j hj)⟩
/-- Counts at p: the struct's block, and the map's, once it is made. -/
def CntQ (w : World) (S : List Nat) (p : Addr) (ls : List Lab) : Prop := ∃ g, p = ⟨g, 0, none⟩ ∧ ((S = [g] ∧ ls = [] ∧ BlkL g [.map none] w) ∨ ∃ b, S = [g, b] ∧ g ≠ b ∧ BlkL g [.map (some b)] w ∧ MapL w b (cntL ls) ls.length)
theorem lt_of_same {w w' : World} {k : Nat} (h : w'.heap[k]? = w.heap[k]?) (hk : k < w.heap.size) : k < w'.heap.size := by
  have h1 : w.heap[k]? = some w.heap[k] := Array.getElem?_eq_getElem hk
  rw [h1] at h
  exact (Array.getElem?_eq_some_iff.1 h).1
theorem BlkL.keep {w w' : World} {g : Nat} {cs : List Value} (h : BlkL g cs w) (hk : w'.heap[g]? = w.heap[g]?) : BlkL g cs w' := ⟨h.1.same hk, lt_of_same hk h.2⟩
theorem CntQ.keep {w w' : World} {S : List Nat} {p : Addr} {ls : List Lab} (h : CntQ w S p ls) (hk : ∀ k ∈ S, w'.heap[k]? = w.heap[k]?) : CntQ w' S p ls := by
  obtain ⟨g, rfl, ⟨rfl, rfl, hg⟩ | ⟨b, rfl, hne, hg, hm⟩⟩ := h
  · exact ⟨g, rfl, .inl ⟨rfl, rfl, hg.keep (hk g (by simp))⟩⟩
  · exact ⟨g, rfl, .inr ⟨b, rfl, hne, hg.keep (hk g (by simp)), hm.same (hk b (by simp))⟩⟩
theorem CntQ.lt {w : World} {S : List Nat} {p : Addr} {ls : List Lab} (h : CntQ w S p ls) : ∀ k ∈ S, k < w.heap.size := by
  obtain ⟨g, rfl, ⟨rfl, rfl, hg⟩ | ⟨b, rfl, hne, hg, hm⟩⟩ := h
  · intro k hk
    simp at hk
    subst hk
    exact hg.2
  · intro k hk
    simp at hk
    rcases hk with rfl | rfl
    · exact hg.2
    · exact hm.lt
/-- A map, or none: what is looked up in it. -/
def MapV (W : World) (m : Option Nat) (f : Lab → Nat) (k : Nat) : Prop := (m = none ∧ f = fun _ => 0) ∨ ∃ b, m = some b ∧ MapL W b f k
theorem CntQ.get {w : World} {S : List Nat} {p : Addr} {ls : List Lab} (h : CntQ w S p ls) : ∃ g m, p = ⟨g, 0, none⟩ ∧ BlkL g [.map m] w ∧ MapV w m (cntL ls) ls.length := by
  obtain ⟨g, rfl, ⟨rfl, rfl, hg⟩ | ⟨b, rfl, hne, hg, hm⟩⟩ := h
  · exact ⟨g, none, rfl, hg, .inl ⟨rfl, rfl⟩⟩
  · exact ⟨g, some b, rfl, hg, .inr ⟨b, rfl, hm⟩⟩
theorem MapV.below {w w' : World} {m : Option Nat} {f : Lab → Nat} {k : Nat} (h : MapV w m f k) (hb : Below w.heap.size w w') : MapV w' m f k := by
  obtain h | ⟨b, h1, h2⟩ := h
  · exact .inl h
  · exact .inr ⟨b, h1, h2.same (hb.block _ h2.lt)⟩
end Go.Proofs.YtohocomemkckeaaDoor

/-! PACKAGE audit AS IT LANDED (mayBe, New, Full, All, Add): a map from labels to sheets. Written by mk_audlog.py. -/
namespace Go.Proofs.YtohocomemkckeaaDoor
open Go.RowKit
set_option maxRecDepth 8000
set_option linter.unusedSimpArgs false
set_option linter.unusedVariables false

set_option maxRecDepth 8000 in
set_option maxHeartbeats 4000000 in
theorem mayBe_any (e : Ent) (w : World) :
    Calls Tryd.prog 24 #[.agg (ecs e).toArray] w fun r w' => r = .returned (.bool (decide (audMay e = 0))) ∧ Below w.heap.size w w' := by
  have hundL := Tryd.underlying23
  have hsl : (Tryd.prog.info? 23).map (·.size) = some 4 := by kernel_rfl
  have hb0 := blkl_alloc w (ecs e).toArray 26
  have hB0 := alloc_below w (.cells (ecs e).toArray 26)
  replace hb0 : BlkL w.heap.size (ecs e) (w.alloc (.cells (ecs e).toArray 26)) := hb0
  have hcl := ebox_lab hb0
  have z2 := (hb0.1 5 _ rfl).1
  have z3 := (hb0.1 6 _ rfl).1
  have z4 := (hb0.1 7 _ rfl).1
  have z5 := (hb0.1 8 _ rfl).1
  have kc := fun W => lcheck_any e.label W
  obtain ⟨M, hM⟩ : ∃ M, decide (audMay e = 0) = M := ⟨_, rfl⟩
  rw [hM]
  obtain ⟨ce, hce⟩ : ∃ ce, chkL e.label = ce := ⟨_, rfl⟩
  rw [hce] at kc
  clear hb0
  have hcs : ecs e = [.int .i64 e.seq, .int .i64 e.label.s, .int .i64 e.label.c, .int .i64 e.label.i, .int .i64 e.label.k, .string e.user, .int .i64 e.verb, .string e.object, .int .i64 e.verdict] := rfl
  rw [hcs] at hcl z2 z3 z4 z5 hB0 ⊢
  clear hcs
  by_cases h0 : ce = 0
  rotate_left
  · obtain rfl : M = false := hM.symm.trans (decide_eq_false (by intro q; have := may_zero.1 q; omega))
    have g0 : (ce == 0) = false := by simpa using h0
    clear hM hce
    go_enter Tryd.func24, Tryd.ntmps24
    go_upto_region 1 with fail
    generalize w.alloc (.cells #[.int .i64 e.seq, .int .i64 e.label.s, .int .i64 e.label.c, .int .i64 e.label.i, .int .i64 e.label.k, .string e.user, .int .i64 e.verb, .string e.object, .int .i64 e.verdict] 26) = W0 at *
    go_wp2_with (first | (refine wpList_load_at rfl _ rfl ⟨w.heap.size, 1, none⟩ rfl (lab4 e.label) hcl hundL rfl hsl ?_) | fail)
    refine (kc W0).mono ?_
    rintro r W1 ⟨rfl, hB1⟩
    have hB := Below.then hB0 hB1
    have z2 := (hB1.cell (World.block_lt_of_cell? _ _ z2)).trans z2
    have z3 := (hB1.cell (World.block_lt_of_cell? _ _ z3)).trans z3
    have z4 := (hB1.cell (World.block_lt_of_cell? _ _ z4)).trans z4
    have z5 := (hB1.cell (World.block_lt_of_cell? _ _ z5)).trans z5
    go_wp2_with fail
    go_ret
    exact ⟨rfl, hB⟩
  subst h0
  by_cases h1 : 1 ≤ e.verb
  rotate_left
  · obtain rfl : M = false := hM.symm.trans (decide_eq_false (by intro q; have := may_zero.1 q; omega))
    have g1 : ¬ 1 ≤ e.verb := by omega
    clear hM hce
    go_enter Tryd.func24, Tryd.ntmps24
    go_upto_region 1 with fail
    generalize w.alloc (.cells #[.int .i64 e.seq, .int .i64 e.label.s, .int .i64 e.label.c, .int .i64 e.label.i, .int .i64 e.label.k, .string e.user, .int .i64 e.verb, .string e.object, .int .i64 e.verdict] 26) = W0 at *
    go_wp2_with (first | (refine wpList_load_at rfl _ rfl ⟨w.heap.size, 1, none⟩ rfl (lab4 e.label) hcl hundL rfl hsl ?_) | fail)
    refine (kc W0).mono ?_
    rintro r W1 ⟨rfl, hB1⟩
    have hB := Below.then hB0 hB1
    have z2 := (hB1.cell (World.block_lt_of_cell? _ _ z2)).trans z2
    have z3 := (hB1.cell (World.block_lt_of_cell? _ _ z3)).trans z3
    have z4 := (hB1.cell (World.block_lt_of_cell? _ _ z4)).trans z4
    have z5 := (hB1.cell (World.block_lt_of_cell? _ _ z5)).trans z5
    go_wp2_with fail
    go_ret
    exact ⟨rfl, hB⟩
  have g1 : 1 ≤ e.verb := by omega
  by_cases h2 : e.verb ≤ 14
  rotate_left
  · obtain rfl : M = false := hM.symm.trans (decide_eq_false (by intro q; have := may_zero.1 q; omega))
    have g2 : ¬ e.verb ≤ 14 := by omega
    clear hM hce
    go_enter Tryd.func24, Tryd.ntmps24
    go_upto_region 1 with fail
    generalize w.alloc (.cells #[.int .i64 e.seq, .int .i64 e.label.s, .int .i64 e.label.c, .int .i64 e.label.i, .int .i64 e.label.k, .string e.user, .int .i64 e.verb, .string e.object, .int .i64 e.verdict] 26) = W0 at *
    go_wp2_with (first | (refine wpList_load_at rfl _ rfl ⟨w.heap.size, 1, none⟩ rfl (lab4 e.label) hcl hundL rfl hsl ?_) | fail)
    refine (kc W0).mono ?_
    rintro r W1 ⟨rfl, hB1⟩
    have hB := Below.then hB0 hB1
    have z2 := (hB1.cell (World.block_lt_of_cell? _ _ z2)).trans z2
    have z3 := (hB1.cell (World.block_lt_of_cell? _ _ z3)).trans z3
    have z4 := (hB1.cell (World.block_lt_of_cell? _ _ z4)).trans z4
    have z5 := (hB1.cell (World.block_lt_of_cell? _ _ z5)).trans z5
    go_wp2_with fail
    go_ret
    exact ⟨rfl, hB⟩
  have g2 : e.verb ≤ 14 := by omega
  by_cases h3 : e.user.size ≤ 78
  rotate_left
  · obtain rfl : M = false := hM.symm.trans (decide_eq_false (by intro q; have := may_zero.1 q; omega))
    have g3 : ¬ (e.user.size : Int) ≤ 78 := by omega
    clear hM hce
    go_enter Tryd.func24, Tryd.ntmps24
    go_upto_region 1 with fail
    generalize w.alloc (.cells #[.int .i64 e.seq, .int .i64 e.label.s, .int .i64 e.label.c, .int .i64 e.label.i, .int .i64 e.label.k, .string e.user, .int .i64 e.verb, .string e.object, .int .i64 e.verdict] 26) = W0 at *
    go_wp2_with (first | (refine wpList_load_at rfl _ rfl ⟨w.heap.size, 1, none⟩ rfl (lab4 e.label) hcl hundL rfl hsl ?_) | fail)
    refine (kc W0).mono ?_
    rintro r W1 ⟨rfl, hB1⟩
    have hB := Below.then hB0 hB1
    have z2 := (hB1.cell (World.block_lt_of_cell? _ _ z2)).trans z2
    have z3 := (hB1.cell (World.block_lt_of_cell? _ _ z3)).trans z3
    have z4 := (hB1.cell (World.block_lt_of_cell? _ _ z4)).trans z4
    have z5 := (hB1.cell (World.block_lt_of_cell? _ _ z5)).trans z5
    go_wp2_with fail
    go_ret
    exact ⟨rfl, hB⟩
  have g3 : (e.user.size : Int) ≤ 78 := by omega
  by_cases h4 : e.object.size ≤ 78
  rotate_left
  · obtain rfl : M = false := hM.symm.trans (decide_eq_false (by intro q; have := may_zero.1 q; omega))
    have g4 : ¬ (e.object.size : Int) ≤ 78 := by omega
    clear hM hce
    go_enter Tryd.func24, Tryd.ntmps24
    go_upto_region 1 with fail
    generalize w.alloc (.cells #[.int .i64 e.seq, .int .i64 e.label.s, .int .i64 e.label.c, .int .i64 e.label.i, .int .i64 e.label.k, .string e.user, .int .i64 e.verb, .string e.object, .int .i64 e.verdict] 26) = W0 at *
    go_wp2_with (first | (refine wpList_load_at rfl _ rfl ⟨w.heap.size, 1, none⟩ rfl (lab4 e.label) hcl hundL rfl hsl ?_) | fail)
    refine (kc W0).mono ?_
    rintro r W1 ⟨rfl, hB1⟩
    have hB := Below.then hB0 hB1
    have z2 := (hB1.cell (World.block_lt_of_cell? _ _ z2)).trans z2
    have z3 := (hB1.cell (World.block_lt_of_cell? _ _ z3)).trans z3
    have z4 := (hB1.cell (World.block_lt_of_cell? _ _ z4)).trans z4
    have z5 := (hB1.cell (World.block_lt_of_cell? _ _ z5)).trans z5
    go_wp2_with fail
    go_ret
    exact ⟨rfl, hB⟩
  have g4 : (e.object.size : Int) ≤ 78 := by omega
  by_cases h5 : 0 ≤ e.verdict
  rotate_left
  · obtain rfl : M = false := hM.symm.trans (decide_eq_false (by intro q; have := may_zero.1 q; omega))
    have g5 : ¬ 0 ≤ e.verdict := by omega
    clear hM hce
    go_enter Tryd.func24, Tryd.ntmps24
    go_upto_region 1 with fail
    generalize w.alloc (.cells #[.int .i64 e.seq, .int .i64 e.label.s, .int .i64 e.label.c, .int .i64 e.label.i, .int .i64 e.label.k, .string e.user, .int .i64 e.verb, .string e.object, .int .i64 e.verdict] 26) = W0 at *
    go_wp2_with (first | (refine wpList_load_at rfl _ rfl ⟨w.heap.size, 1, none⟩ rfl (lab4 e.label) hcl hundL rfl hsl ?_) | fail)
    refine (kc W0).mono ?_
    rintro r W1 ⟨rfl, hB1⟩
    have hB := Below.then hB0 hB1
    have z2 := (hB1.cell (World.block_lt_of_cell? _ _ z2)).trans z2
    have z3 := (hB1.cell (World.block_lt_of_cell? _ _ z3)).trans z3
    have z4 := (hB1.cell (World.block_lt_of_cell? _ _ z4)).trans z4
    have z5 := (hB1.cell (World.block_lt_of_cell? _ _ z5)).trans z5
    go_wp2_with fail
    go_ret
    exact ⟨rfl, hB⟩
  have g5 : 0 ≤ e.verdict := by omega
  by_cases h6 : e.verdict ≤ 255
  rotate_left
  · obtain rfl : M = false := hM.symm.trans (decide_eq_false (by intro q; have := may_zero.1 q; omega))
    have g6 : decide (e.verdict ≤ 255) = false := by exact decide_eq_false h6
    clear hM hce
    go_enter Tryd.func24, Tryd.ntmps24
    go_upto_region 1 with fail
    generalize w.alloc (.cells #[.int .i64 e.seq, .int .i64 e.label.s, .int .i64 e.label.c, .int .i64 e.label.i, .int .i64 e.label.k, .string e.user, .int .i64 e.verb, .string e.object, .int .i64 e.verdict] 26) = W0 at *
    go_wp2_with (first | (refine wpList_load_at rfl _ rfl ⟨w.heap.size, 1, none⟩ rfl (lab4 e.label) hcl hundL rfl hsl ?_) | fail)
    refine (kc W0).mono ?_
    rintro r W1 ⟨rfl, hB1⟩
    have hB := Below.then hB0 hB1
    have z2 := (hB1.cell (World.block_lt_of_cell? _ _ z2)).trans z2
    have z3 := (hB1.cell (World.block_lt_of_cell? _ _ z3)).trans z3
    have z4 := (hB1.cell (World.block_lt_of_cell? _ _ z4)).trans z4
    have z5 := (hB1.cell (World.block_lt_of_cell? _ _ z5)).trans z5
    go_wp2_with fail
    go_ret
    exact ⟨rfl, hB⟩
  have g6 : e.verdict ≤ 255 := by omega
  obtain rfl : M = true := hM.symm.trans (decide_eq_true (may_zero.2 ⟨hce, h1, h2, h3, h4, h5, h6⟩))
  clear hM hce
  go_enter Tryd.func24, Tryd.ntmps24
  go_upto_region 1 with fail
  generalize w.alloc (.cells #[.int .i64 e.seq, .int .i64 e.label.s, .int .i64 e.label.c, .int .i64 e.label.i, .int .i64 e.label.k, .string e.user, .int .i64 e.verb, .string e.object, .int .i64 e.verdict] 26) = W0 at *
  go_wp2_with (first | (refine wpList_load_at rfl _ rfl ⟨w.heap.size, 1, none⟩ rfl (lab4 e.label) hcl hundL rfl hsl ?_) | fail)
  refine (kc W0).mono ?_
  rintro r W1 ⟨rfl, hB1⟩
  have hB := Below.then hB0 hB1
  have z2 := (hB1.cell (World.block_lt_of_cell? _ _ z2)).trans z2
  have z3 := (hB1.cell (World.block_lt_of_cell? _ _ z3)).trans z3
  have z4 := (hB1.cell (World.block_lt_of_cell? _ _ z4)).trans z4
  have z5 := (hB1.cell (World.block_lt_of_cell? _ _ z5)).trans z5
  go_wp2_with fail
  go_ret
  exact ⟨rfl, hB⟩
/-- A label's sheet, as a value; whether it is there. -/
def shv (st : List Ent) (x : Lab) : Value := .agg (scs (audAll st x)).toArray
def liv (st : List Ent) (x : Lab) : Bool := !(audAll st x).isEmpty
theorem liv_iff {st : List Ent} {x : Lab} : liv st x = true ↔ audAll st x ≠ [] := by
  unfold liv
  cases audAll st x <;> simp
/-- The log at p: the struct's block, and the map's, once it is made. -/
def LogQ (w : World) (S : List Nat) (p : Addr) (st : List Ent) : Prop := ∃ g, p = ⟨g, 0, none⟩ ∧ ((S = [g] ∧ st = [] ∧ BlkL g [.map none] w) ∨ ∃ b, S = [g, b] ∧ g ≠ b ∧ BlkL g [.map (some b)] w ∧ MapG w b (shv st) (liv st) st.length)
theorem LogQ.keep {w w' : World} {S : List Nat} {p : Addr} {st : List Ent} (h : LogQ w S p st) (hk : ∀ k ∈ S, w'.heap[k]? = w.heap[k]?) : LogQ w' S p st := by
  obtain ⟨g, rfl, ⟨rfl, rfl, hg⟩ | ⟨b, rfl, hne, hg, hm⟩⟩ := h
  · exact ⟨g, rfl, .inl ⟨rfl, rfl, hg.keep (hk g (by simp))⟩⟩
  · exact ⟨g, rfl, .inr ⟨b, rfl, hne, hg.keep (hk g (by simp)), hm.same (hk b (by simp))⟩⟩
theorem LogQ.lt {w : World} {S : List Nat} {p : Addr} {st : List Ent} (h : LogQ w S p st) : ∀ k ∈ S, k < w.heap.size := by
  obtain ⟨g, rfl, ⟨rfl, rfl, hg⟩ | ⟨b, rfl, hne, hg, hm⟩⟩ := h
  · intro k hk
    simp at hk
    subst hk
    exact hg.2
  · intro k hk
    simp at hk
    rcases hk with rfl | rfl
    · exact hg.2
    · exact hm.lt
/-- A map, or none. -/
def MapS (W : World) (m : Option Nat) (st : List Ent) : Prop := (m = none ∧ st = []) ∨ ∃ b, m = some b ∧ MapG W b (shv st) (liv st) st.length
theorem LogQ.get {w : World} {S : List Nat} {p : Addr} {st : List Ent} (h : LogQ w S p st) : ∃ g m, p = ⟨g, 0, none⟩ ∧ BlkL g [.map m] w ∧ MapS w m st := by
  obtain ⟨g, rfl, ⟨rfl, rfl, hg⟩ | ⟨b, rfl, hne, hg, hm⟩⟩ := h
  · exact ⟨g, none, rfl, hg, .inl ⟨rfl, rfl⟩⟩
  · exact ⟨g, some b, rfl, hg, .inr ⟨b, rfl, hm⟩⟩
theorem MapS.below {w w' : World} {m : Option Nat} {st : List Ent} (h : MapS w m st) (hb : Below w.heap.size w w') : MapS w' m st := by
  obtain h | ⟨b, h1, h2⟩ := h
  · exact .inl h
  · exact .inr ⟨b, h1, h2.same (hb.block _ h2.lt)⟩
theorem shv_dead {st : List Ent} {x : Lab} (h : liv st x = false) : shv st x = .agg (scs []).toArray := by
  unfold liv at h
  unfold shv
  cases hq : audAll st x with
  | nil => rfl
  | cons a r => rw [hq] at h; cases h
theorem lookS_run {W : World} {m : Option Nat} {st : List Ent} (h : MapS W m st) {x : Lab} (hx : GL x) : (Instr.lookup 50 (.map m) x.v false).run Tryd.prog W = .ok (shv st x) W := by
  obtain ⟨rfl, rfl⟩ | ⟨b, rfl, h⟩ := h
  · exact lookN_run und_s zero_s W hx
  · exact lookG_run und_s zero_s h hx shv_dead
section
variable {ops : Array Oper} {o : Oper} {a : Act} {w : World} {Q : Exit → Act → World → Prop} {T : TypeId}
theorem yields_lookG {S : World → Prop} (hw : Region.wanted o (yielded ops a.tmps) = true) (x y : Operand) (ho : o.op = .lookup T x y false) {u v r : Value} (hx : a.eval x = u) (hy : a.eval y = v)
    (hS : ∀ w, S w → (Instr.lookup T u v false).run Tryd.prog w = .ok r w) : YieldsIf Tryd.prog ops S o r a :=
  .inl ⟨hw, fun w hw' => by
    unfold execOp
    simp [ho, hx, hy, hS w hw', Result.andThen]
    try rfl⟩
theorem yields_oneG {S : World → Prop} (hw : Region.wanted o (yielded ops a.tmps) = true) (x : Operand) (ho : o.op = .load T x) (y : Addr) (hx : a.eval x = .pointer (some y)) (v : Value) (hS : ∀ w, S w → w.cell? y = some v) (hl : ∀ w y v, w.cell? y = some v → (Instr.loadAt T (.pointer (some y))).run Tryd.prog w = .ok v w) : YieldsIf Tryd.prog ops S o v a :=
  .inl ⟨hw, fun w hw' => by
    unfold execOp
    simp only [ho, hx, Sem.run_bind, hl w y v (hS w hw'), Result.andThen_ok]
    rfl⟩
theorem yields_fieldG {S : World → Prop} {k : Nat} (hw : Region.wanted o (yielded ops a.tmps) = true) (x : Operand) (ho : o.op = .field T x k) {u r : Value} (hx : a.eval x = u)
    (hr : ∀ w, (Instr.field T u k).run Tryd.prog w = .ok r w) : YieldsIf Tryd.prog ops S o r a :=
  .inl ⟨hw, fun w hw' => by
    unfold execOp
    simp [ho, hx, hr w, Result.andThen]
    try rfl⟩
theorem step_alloc_s {K : Act → World → Prop} {E : Prop} (hg : o.guard = none) (ho : o.op = .alloc 56) (hK : K (a.put o.dst (.pointer (some ⟨w.heap.size, 0, none⟩))) (w.alloc (.cells (scs []).toArray 56))) :
    if Region.wanted o (yielded ops a.tmps) = true then Oper.wp Tryd.prog o a w K Q else E := by
  have hw : Region.wanted o (yielded ops a.tmps) = true := by simp [Region.wanted, hg]
  rw [if_pos hw]
  unfold Oper.wp
  simp only [execOp, ho, Instr.alloc, Sem.run_bind, zero_s, Result.andThen_ok, newVar, newRow]
  exact hK
theorem step_upd {K : Act → World → Prop} {E : Prop} (hg : o.guard = none) (x y z : Operand) (ho : o.op = .mapUpdate T x y z) {u v r : Value} {w' : World} (hx : a.eval x = u) (hy : a.eval y = v) (hz : a.eval z = r)
    (hrun : (Instr.mapUpdate T u v r).run Tryd.prog w = .ok () w') (hK : K (a.put o.dst undef) w') :
    if Region.wanted o (yielded ops a.tmps) = true then Oper.wp Tryd.prog o a w K Q else E := by
  have hw : Region.wanted o (yielded ops a.tmps) = true := by simp [Region.wanted, hg]
  rw [if_pos hw]
  unfold Oper.wp
  simp [execOp, ho, hx, hy, hz, hrun, Result.andThen]
  exact hK
end
theorem mapS_load (w : World) (y : Addr) (v : Value) (h : w.cell? y = some v) : (Instr.loadAt 50 (.pointer (some y))).run Tryd.prog w = .ok v w := by
  have h1 := und_s
  go_simp
theorem eqlS_nil (W : World) : (binOp .eql 50 (.map none) (.map none)).run Tryd.prog W = .ok (.bool true) W := by kernel_rfl
theorem eqlS_map (b : Nat) (W : World) : (binOp .eql 50 (.map (some b)) (.map none)).run Tryd.prog W = .ok (.bool false) W := by kernel_rfl
theorem eqlS_any (m : Option Nat) (W : World) : (binOp .eql 50 (.map m) (.map none)).run Tryd.prog W = .ok (.bool m.isNone) W := by
  cases m
  · exact eqlS_nil W
  · exact eqlS_map _ W
theorem anew_any (w : World) : Calls Tryd.prog 10 #[] w fun e w' => ∃ p S, e = .returned (.pointer (some p)) ∧ LogQ w' S p [] ∧ (∀ k ∈ S, w.heap.size ≤ k) ∧ Below w.heap.size w w' := by
  have h2 := blkl_alloc w #[.map none] 52
  have hB2 := alloc_below w (.cells #[.map none] 52)
  go_enter Tryd.func10, Tryd.ntmps10
  go_wp2_with fail
  go_ret
  refine ⟨⟨w.heap.size, 0, none⟩, rfl, [w.heap.size], ⟨_, rfl, .inl ⟨rfl, rfl, h2⟩⟩, fun k hk => ?_, hB2⟩
  simp at hk
  omega
theorem full_eq {st : List Ent} (hst : AudSt st) (x : Lab) : audFull st x = (((audAll st x).length : Int) == 40) := by
  have := hst.cnt x
  unfold audFull
  by_cases h : 40 ≤ (audAll st x).length
  · rw [decide_eq_true h, show (audAll st x).length = 40 by omega]
    rfl
  · rw [decide_eq_false h]
    exact (beq_eq_false_iff_ne.2 (by omega)).symm
set_option maxRecDepth 8000 in
set_option maxHeartbeats 4000000 in
theorem afull_any {S : List Nat} {p : Addr} {st : List Ent} (x : Lab) (hGx : GL x) (w : World) (h : LogQ w S p st) (hst : AudSt st) : Calls Tryd.prog 14 #[.pointer (some p), x.v] w fun r w' => r = .returned (.bool (audFull st x)) ∧ Below w.heap.size w w' := by
  have hundL := Tryd.underlying23
  have hsl : (Tryd.prog.info? 23).map (·.size) = some 4 := by kernel_rfl
  rw [full_eq hst x]
  have hx40 := hst.cnt x
  obtain ⟨g, m, rfl, hg, hm⟩ := h.get
  have hb0 := blkl_alloc w (lab4 x).toArray 23
  have hB0 := alloc_below w (.cells (lab4 x).toArray 23)
  replace hb0 : BlkL w.heap.size (lab4 x) (w.alloc (.cells (lab4 x).toArray 23)) := hb0
  have hg0 := stab_blk _ _ _ _ hg hB0
  have hm0 := hm.below hB0
  have hlk := fun W (q : MapS W m st) => lookS_run q hGx
  unfold shv at hlk
  obtain ⟨xs, hxs⟩ : ∃ xs, audAll st x = xs := ⟨_, rfl⟩
  rw [hxs] at hlk hx40 ⊢
  have hfc := fun W => run_field_cnt hx40 W
  obtain ⟨n, hn⟩ : ∃ n, xs.length = n := ⟨_, rfl⟩
  rw [hn] at hfc ⊢
  obtain ⟨R, hR⟩ : ∃ R, ((n : Int) == 40) = R := ⟨_, rfl⟩
  rw [hR]
  clear hxs hn hx40
  go_enter Tryd.func14, Tryd.ntmps14
  go_upto_region 1 with fail
  generalize w.alloc (.cells #[.int .i64 x.s, .int .i64 x.c, .int .i64 x.i, .int .i64 x.k] 23) = Z at *
  have hBd : Below Z.heap.size Z Z.drew := (Below.refl _ _).drew
  have hS : (fun W => Below Z.heap.size Z W) Z.drew := hBd
  refine wp_region_held_drew (S := (fun W => Below Z.heap.size Z W)) (by kernel_rfl) (by exact hS) ?_
  intro hHeld
  (first | (refine wpAnyH_take (i := 0) (v := ?_) (by simp only [gA, gB, gC]; rfl) (by kernel_rfl) (by kernel_rfl) (by kernel_rfl) (by exact fun _ _ _ h => h) (Or.inl ⟨by rfl, ?_⟩) (by assumption) ?_; rotate_left; (focus (intro w hSw; (try dsimp only at hSw); go_simp; try with_reducible rfl))) | (refine wpAnyH_take (i := 0) (v := undef) (by simp only [gA, gB, gC]; rfl) (by kernel_rfl) (by kernel_rfl) (by kernel_rfl) (by exact fun _ _ _ h => h) (Or.inr ⟨by rfl, rfl⟩) (by assumption) ?_) | fail); simp only [Act.put, sA, sB, sC]
  (first | (refine wpAnyH_take (i := 1) (v := ?_) (by simp only [gA, gB, gC]; rfl) (by kernel_rfl) (by kernel_rfl) (by kernel_rfl) (by exact fun _ _ _ h => h) (Or.inl ⟨by rfl, ?_⟩) (by assumption) ?_; rotate_left; (focus (intro w hSw; (try dsimp only at hSw); go_simp; try with_reducible rfl))) | (refine wpAnyH_take (i := 1) (v := undef) (by simp only [gA, gB, gC]; rfl) (by kernel_rfl) (by kernel_rfl) (by kernel_rfl) (by exact fun _ _ _ h => h) (Or.inr ⟨by rfl, rfl⟩) (by assumption) ?_) | fail); simp only [Act.put, sA, sB, sC]
  (first | (refine wpAnyH_take (i := 2) (v := ?_) (by simp only [gA, gB, gC]; rfl) (by kernel_rfl) (by kernel_rfl) (by kernel_rfl) (by exact fun _ _ _ h => h) (Or.inl ⟨by rfl, ?_⟩) (by assumption) ?_; rotate_left; (focus (intro w hSw; (try dsimp only at hSw); go_simp; try with_reducible rfl))) | (refine wpAnyH_take (i := 2) (v := undef) (by simp only [gA, gB, gC]; rfl) (by kernel_rfl) (by kernel_rfl) (by kernel_rfl) (by exact fun _ _ _ h => h) (Or.inr ⟨by rfl, rfl⟩) (by assumption) ?_) | fail); simp only [Act.put, sA, sB, sC]
  (first | (refine wpAnyH_take (i := 3) (v := _) (by simp only [gA, gB, gC]; rfl) (by kernel_rfl) (by kernel_rfl) (by kernel_rfl) (by exact fun _ _ _ h => h) (yields_oneG (by rfl) _ rfl ⟨g, 0, none⟩ rfl (.map m) (fun _ q => ((stab_blk _ _ _ _ hg0 q).1 0 _ rfl).1) mapS_load) (by assumption) ?_) | (refine wpAnyH_take (i := 3) (v := undef) (by simp only [gA, gB, gC]; rfl) (by kernel_rfl) (by kernel_rfl) (by kernel_rfl) (by exact fun _ _ _ h => h) (Or.inr ⟨by rfl, rfl⟩) (by assumption) ?_) | fail); simp only [Act.put, sA, sB, sC]
  (first | (refine wpAnyH_take (i := 4) (v := _) (by simp only [gA, gB, gC]; rfl) (by kernel_rfl) (by kernel_rfl) (by kernel_rfl) (by exact fun _ _ _ h => h) (yields_row (by rfl) _ rfl w.heap.size rfl (lab4 x) (fun _ q => (stab_blk _ _ _ _ hb0 q).range) hundL rfl hsl) (by assumption) ?_) | (refine wpAnyH_take (i := 4) (v := undef) (by simp only [gA, gB, gC]; rfl) (by kernel_rfl) (by kernel_rfl) (by kernel_rfl) (by exact fun _ _ _ h => h) (Or.inr ⟨by rfl, rfl⟩) (by assumption) ?_) | fail); simp only [Act.put, sA, sB, sC]
  (first | (refine wpAnyH_take (i := 5) (v := _) (by simp only [gA, gB, gC]; rfl) (by kernel_rfl) (by kernel_rfl) (by kernel_rfl) (by exact fun _ _ _ h => h) (yields_lookG (u := .map m) (v := x.v) (by rfl) _ _ rfl rfl rfl (fun W q => hlk W (hm0.below q))) (by assumption) ?_) | (refine wpAnyH_take (i := 5) (v := undef) (by simp only [gA, gB, gC]; rfl) (by kernel_rfl) (by kernel_rfl) (by kernel_rfl) (by exact fun _ _ _ h => h) (Or.inr ⟨by rfl, rfl⟩) (by assumption) ?_) | fail); simp only [Act.put, sA, sB, sC]
  (first | (refine wpAnyH_take (i := 6) (v := _) (by simp only [gA, gB, gC]; rfl) (by kernel_rfl) (by kernel_rfl) (by kernel_rfl) (by exact fun _ _ _ h => h) (yields_fieldG (by rfl) _ rfl rfl hfc) (by assumption) ?_) | (refine wpAnyH_take (i := 6) (v := undef) (by simp only [gA, gB, gC]; rfl) (by kernel_rfl) (by kernel_rfl) (by kernel_rfl) (by exact fun _ _ _ h => h) (Or.inr ⟨by rfl, rfl⟩) (by assumption) ?_) | fail); simp only [Act.put, sA, sB, sC]
  (first | (refine wpAnyH_take (i := 7) (v := ?_) (by simp only [gA, gB, gC]; rfl) (by kernel_rfl) (by kernel_rfl) (by kernel_rfl) (by exact fun _ _ _ h => h) (Or.inl ⟨by rfl, ?_⟩) (by assumption) ?_; rotate_left; (focus (intro w hSw; (try dsimp only at hSw); go_simp; try with_reducible rfl))) | (refine wpAnyH_take (i := 7) (v := undef) (by simp only [gA, gB, gC]; rfl) (by kernel_rfl) (by kernel_rfl) (by kernel_rfl) (by exact fun _ _ _ h => h) (Or.inr ⟨by rfl, rfl⟩) (by assumption) ?_) | fail); simp only [Act.put, sA, sB, sC]
  (first | (refine wpAnyH_take (i := 8) (v := ?_) (by simp only [gA, gB, gC]; rfl) (by kernel_rfl) (by kernel_rfl) (by kernel_rfl) (by exact fun _ _ _ h => h) (Or.inl ⟨by rfl, ?_⟩) (by assumption) ?_; rotate_left; (focus (intro w hSw; (try dsimp only at hSw); go_simp; try with_reducible rfl))) | (refine wpAnyH_take (i := 8) (v := undef) (by simp only [gA, gB, gC]; rfl) (by kernel_rfl) (by kernel_rfl) (by kernel_rfl) (by exact fun _ _ _ h => h) (Or.inr ⟨by rfl, rfl⟩) (by assumption) ?_) | fail); simp only [Act.put, sA, sB, sC]
  refine wpAnyH_done (by kernel_rfl) ?_ _
  go_wp2_with fail
  go_ret
  exact ⟨rfl, Below.then hB0 hBd⟩
set_option maxRecDepth 8000 in
set_option maxHeartbeats 4000000 in
theorem aall_any {S : List Nat} {p : Addr} {st : List Ent} (x : Lab) (hGx : GL x) (w : World) (h : LogQ w S p st) (hst : AudSt st) : Calls Tryd.prog 13 #[.pointer (some p), x.v] w fun r w' => ∃ v, r = .returned v ∧ TellE w' w.heap.size v (audAll st x) ∧ Below w.heap.size w w' := by
  have hundL := Tryd.underlying23
  have hsl : (Tryd.prog.info? 23).map (·.size) = some 4 := by kernel_rfl
  have hx40 := hst.cnt x
  obtain ⟨g, m, rfl, hg, hm⟩ := h.get
  have hb0 := blkl_alloc w (lab4 x).toArray 23
  have hB0 := alloc_below w (.cells (lab4 x).toArray 23)
  replace hb0 : BlkL w.heap.size (lab4 x) (w.alloc (.cells (lab4 x).toArray 23)) := hb0
  have hg0 := stab_blk _ _ _ _ hg hB0
  have hm0 := hm.below hB0
  have hlk := fun W (q : MapS W m st) => lookS_run q hGx
  unfold shv at hlk
  obtain ⟨xs, hxs⟩ : ∃ xs, audAll st x = xs := ⟨_, rfl⟩
  rw [hxs] at hlk hx40 ⊢
  clear hxs
  go_enter Tryd.func13, Tryd.ntmps13
  go_upto_region 1 with fail
  generalize w.alloc (.cells #[.int .i64 x.s, .int .i64 x.c, .int .i64 x.i, .int .i64 x.k] 23) = Z at *
  go_cut [5] from 6 (fun s5 wc => ∃ b5 : Nat, Z.heap.size ≤ b5 ∧ s5 = .pointer (some ⟨b5, 0, none⟩) ∧ BlkL b5 (scs xs) wc ∧ Below Z.heap.size Z wc)
  case first =>
    have hS0 : (fun W => Below Z.heap.size Z W) Z.drew := (Below.refl _ _).drew
    refine wp_region_held_drew (S := (fun W => Below Z.heap.size Z W)) (by kernel_rfl) (by exact hS0) ?_
    intro hHeld
    generalize Z.drew = w0 at *
    refine wpAnyH_take (i := 0) (v := ?_) (by simp only [gA, gB, gC]; rfl) (by kernel_rfl) (by kernel_rfl) (by kernel_rfl) (by exact fun _ _ _ h => h) (Or.inl ⟨by rfl, ?_⟩) (by assumption) ?_; rotate_left; (focus (intro w hSw; (try dsimp only at hSw); go_simp; try with_reducible rfl)); (try simp only [Act.put, sA, sB, sC])
    refine wpAnyH_take (i := 1) (v := ?_) (by simp only [gA, gB, gC]; rfl) (by kernel_rfl) (by kernel_rfl) (by kernel_rfl) (by exact fun _ _ _ h => h) (Or.inl ⟨by rfl, ?_⟩) (by assumption) ?_; rotate_left; (focus (intro w hSw; (try dsimp only at hSw); go_simp; try with_reducible rfl)); (try simp only [Act.put, sA, sB, sC])
    refine wpAnyH_take (i := 2) (v := ?_) (by simp only [gA, gB, gC]; rfl) (by kernel_rfl) (by kernel_rfl) (by kernel_rfl) (by exact fun _ _ _ h => h) (Or.inl ⟨by rfl, ?_⟩) (by assumption) ?_; rotate_left; (focus (intro w hSw; (try dsimp only at hSw); go_simp; try with_reducible rfl)); (try simp only [Act.put, sA, sB, sC])
    refine wpAnyH_take (i := 3) (v := _) (by simp only [gA, gB, gC]; rfl) (by kernel_rfl) (by kernel_rfl) (by kernel_rfl) (by exact fun _ _ _ h => h) (yields_oneG (by rfl) _ rfl ⟨g, 0, none⟩ rfl (.map m) (fun _ q => ((stab_blk _ _ _ _ hg0 q).1 0 _ rfl).1) mapS_load) (by assumption) ?_; (try simp only [Act.put, sA, sB, sC])
    refine wpAnyH_take (i := 4) (v := _) (by simp only [gA, gB, gC]; rfl) (by kernel_rfl) (by kernel_rfl) (by kernel_rfl) (by exact fun _ _ _ h => h) (yields_row (by rfl) _ rfl w.heap.size rfl (lab4 x) (fun _ q => (stab_blk _ _ _ _ hb0 q).range) hundL rfl hsl) (by assumption) ?_; (try simp only [Act.put, sA, sB, sC])
    refine wpAnyH_take (i := 5) (v := _) (by simp only [gA, gB, gC]; rfl) (by kernel_rfl) (by kernel_rfl) (by kernel_rfl) (by exact fun _ _ _ h => h) (yields_lookG (u := .map m) (v := x.v) (by rfl) _ _ rfl rfl rfl (fun W q => hlk W (hm0.below q))) (by assumption) ?_; (try simp only [Act.put, sA, sB, sC])
    refine wpAnyH_ready (rs := [6]) (by kernel_rfl) (by simp) ?_
    refine AllReadyH.cons (by simp only [gA, gB, gC]; rfl) (fun K hK => ?_) AllReadyH.nil
    obtain ⟨w2, hw2, hth2, hn2, hb2⟩ := put_new w0 (scs []).toArray 56 (scs xs) (by rw [scs_len hx40]; exact (scs_len (xs := []) (by decide)).symm) (by rw [scs_len hx40]; decide)
    have hS1 := Below.then hS0 (alloc_below w0 (.cells (scs []).toArray 56))
    have hS2 := Below.then hS0 hb2
    have hz0 := hS0.size
    refine step_alloc_s rfl rfl ?_
    (try simp only [Act.put, sA, sB, sC])
    refine hK.out _ _ (hS1) ?_
    clear hHeld hK
    intro hHeld
    (try simp only [Act.put, sA, sB, sC])
    refine wpAnyH_ready (rs := [7]) (by kernel_rfl) (by simp) ?_
    refine AllReadyH.cons (by simp only [gA, gB, gC]; rfl) (fun K hK => ?_) AllReadyH.nil
    refine step_store_part rfl _ _ rfl w0.heap.size 0 rfl (scs xs) rfl hth2 (size_of hx40) (scs_one xs) hw2 ?_
    (try simp only [Act.put, sA, sB, sC])
    refine hK.out _ _ (hS2) ?_
    clear hHeld hK
    intro hHeld
    (try simp only [Act.put, sA, sB, sC])
    refine wpAnyH_done (by kernel_rfl) ?_ _
    go_wp2_with fail
    go_meet
    exact ⟨w0.heap.size, hz0, rfl, hn2, hS2⟩
  case rest =>
    obtain ⟨b5, hz5, rfl, hb5, hBZ⟩ := hcut
    have hc360 := (hb5.1 360 _ (scs_cnt hx40)).1
    have hB := Below.then hB0 hBZ
    obtain ⟨n, hn⟩ : ∃ n, xs.length = n := ⟨_, rfl⟩
    rw [hn] at hc360 hx40
    have hs40 := slice40 b5 n hx40
    have htell : TellE wc w.heap.size (.slice (some ⟨b5, 0, none⟩) n 40) xs := ⟨⟨_, _, by rw [hn], by omega, (fun q => by cases q), scs_row hb5.1⟩, fun k hk => by
      cases hk
      exact ⟨Nat.le_trans hB0.size hz5, hb5.2⟩⟩
    clear hb5 hBZ hn hg0 hb0 hm0 hg hm hlk
    go_wp2_with fail
    go_ret
    exact ⟨_, rfl, htell, hB⟩
theorem shv_add {st : List Ent} (hst : AudSt st) {e : Ent} (he : audErr st e = 0) (y : Lab) : shv (audAdd st e) y = if labEq e.label y = true then .agg (scs (audAll st e.label ++ [audNext st e])).toArray else shv st y := by
  unfold shv
  rw [add_all hst.sort]
  by_cases hq : labEq e.label y = true
  · rw [if_pos ⟨he, hq⟩, if_pos hq, (labEq_iff _ _).1 hq]
  · rw [if_neg (fun k => hq k.2), if_neg hq, List.append_nil]
theorem liv_add {st : List Ent} (hst : AudSt st) {e : Ent} (he : audErr st e = 0) (y : Lab) : liv (audAdd st e) y = (labEq e.label y || liv st y) := by
  unfold liv
  rw [add_all hst.sort]
  by_cases hq : labEq e.label y = true
  · rw [if_pos ⟨he, hq⟩, hq]
    cases audAll st y <;> rfl
  · rw [if_neg (fun k => hq k.2), List.append_nil, Bool.not_eq_true _ |>.mp hq]
    rfl
theorem add_len0 {st : List Ent} {e : Ent} (he : audErr st e = 0) : (audAdd st e).length = st.length + 1 := by
  unfold audAdd
  rw [if_pos he, ins_len]
theorem set_seqA (W : World) (g : Nat) (e : Ent) (s : Int) (h : BlkL g (ecs e) W) : BlkL g (ecs { e with seq := s }) (W.setCell ⟨g, 0, none⟩ (.int .i64 s)) := by
  have h1 := h.1.set 0 (.int .i64 s) (by simp [ecs])
  exact ⟨h1, h1.lt rfl⟩
theorem Turned.cell {S : List Nat} {w W : World} (h : Turned S w W) {p : Addr} (hp : w.heap.size ≤ p.block) (v : Value) : Turned S w (W.setCell p v) :=
  have h1 := (Below.refl w.heap.size W).setCell (p := p) hp v
  ⟨h1.os.trans h.os, h1.tape.trans h.tape, h1.output.trans h.output, Nat.le_trans h.size (by simp), fun k hk hn => (h1.block k hk).trans (h.block k hk hn)⟩
theorem Turned.cells {S : List Nat} {w W : World} (h : Turned S w W) {b : Nat} (hp : w.heap.size ≤ b) (o : Nat) (vs : List Value) : Turned S w (W.setCells b o vs) :=
  have h1 := Below.cells hp vs o (Below.refl w.heap.size W)
  ⟨h1.os.trans h.os, h1.tape.trans h.tape, h1.output.trans h.output, by rw [size_setCells]; exact h.size, fun k hk hn => (h1.block k hk).trans (h.block k hk hn)⟩
theorem Turned.turn1 {S : List Nat} {w W W' : World} (h : Turned S w W) {b : Nat} (k : Turn1 b W W') (hb : b ∈ S) : Turned S w W' :=
  ⟨k.os.trans h.os, k.tape.trans h.tape, k.output.trans h.output, by rw [k.size]; exact h.size, fun j hj hn => (k.block j (fun e => hn (by rw [e]; exact hb))).trans (h.block j hj hn)⟩
set_option maxRecDepth 8000 in
set_option maxHeartbeats 8000000 in
theorem aadd_any {S : List Nat} {p : Addr} {st : List Ent} (e : Ent) (w : World) (h : LogQ w S p st) (hst : AudSt st) : Calls Tryd.prog 12 #[.pointer (some p), .agg (ecs e).toArray] w fun r w' => r = .returned (.int .i64 (audErr st e)) ∧ ∃ S', LogQ w' S' p (audAdd st e) ∧ Turned S w w' ∧ ∀ k ∈ S', k ∈ S ∨ w.heap.size ≤ k := by
  have hundL := Tryd.underlying23
  have hundE := Tryd.underlying26
  have hundS := Tryd.underlying56
  have hsl : (Tryd.prog.info? 23).map (·.size) = some 4 := by kernel_rfl
  have hse : (Tryd.prog.info? 26).map (·.size) = some 9 := by kernel_rfl
  have hb0 := blkl_alloc w (ecs e).toArray 26
  have hB0 := alloc_below w (.cells (ecs e).toArray 26)
  replace hb0 : BlkL w.heap.size (ecs e) (w.alloc (.cells (ecs e).toArray 26)) := hb0
  have km := mayBe_any e
  have hcs : ecs e = [.int .i64 e.seq, .int .i64 e.label.s, .int .i64 e.label.c, .int .i64 e.label.i, .int .i64 e.label.k, .string e.user, .int .i64 e.verb, .string e.object, .int .i64 e.verdict] := rfl
  obtain ⟨E, hE⟩ : ∃ E, audErr st e = E := ⟨_, rfl⟩
  obtain ⟨N, hN⟩ : ∃ N, audAdd st e = N := ⟨_, rfl⟩
  rw [hE, hN]
  replace hE : Aside (audErr st e = E) := hE
  replace hN : Aside (audAdd st e = N) := hN
  go_enter Tryd.func12, Tryd.ntmps12
  rw [hcs]
  go_upto_region 1 with fail
  rw [← hcs]
  replace hcs : Aside (ecs e = [.int .i64 e.seq, .int .i64 e.label.s, .int .i64 e.label.c, .int .i64 e.label.i, .int .i64 e.label.k, .string e.user, .int .i64 e.verb, .string e.object, .int .i64 e.verdict]) := hcs
  generalize w.alloc (.cells (ecs e).toArray 26) = W0 at *
  have hr0 := hb0.range
  go_wp2_with (first | (refine wpList_load_row rfl _ rfl w.heap.size rfl (ecs e) hr0 hundE rfl hse ?_) | fail)
  refine (km W0).mono ?_
  rintro r W1 ⟨rfl, hB1⟩
  have hB01 := Below.then hB0 hB1
  have hb1 := stab_blk _ _ _ _ hb0 hB1
  clear hr0 hb0 km hB0 hB1
  by_cases hM0 : audMay e = 0
  rotate_left
  · rw [decide_eq_false hM0]
    have hE1 : E = 1 := by
      rw [← hE.out]
      unfold audErr
      rw [if_pos hM0]
    have hN1 : N = st := by
      rw [← hN.out]
      unfold audAdd
      rw [if_neg (by rw [hE.out, hE1]; decide)]
    subst hE1 hN1
    clear hE hN
    have hq := h.keep (fun k hk => hB01.block k (h.lt k hk))
    go_wp2_with fail
    go_ret
    exact ⟨rfl, S, hq, ⟨hB01.os, hB01.tape, hB01.output, hB01.size, fun k hk _ => hB01.block k hk⟩, fun k hk => .inl hk⟩
  rw [decide_eq_true hM0]
  have hGx : GL e.label := chkL_zero.1 (may_zero.1 hM0).1
  have hq1 := h.keep (fun k hk => hB01.block k (h.lt k hk))
  have hcl := ebox_lab hb1
  have kf := afull_any e.label hGx W1 hq1 hst
  clear hq1
  go_wp2_with (first | (refine wpList_load_at rfl _ rfl ⟨w.heap.size, 1, none⟩ rfl (lab4 e.label) hcl hundL rfl hsl ?_) | fail)
  refine kf.mono ?_
  rintro r W2 ⟨rfl, hB2⟩
  have hB02 := Below.then hB01 hB2
  have hb2 := stab_blk _ _ _ _ hb1 hB2
  clear hcl hb1 kf hB01 hB2
  cases hF : audFull st e.label
  rotate_left
  · have hE1 : E = 18 := by
      rw [← hE.out]
      unfold audErr
      rw [if_neg (by simp [hM0]), if_pos hF]
    have hN1 : N = st := by
      rw [← hN.out]
      unfold audAdd
      rw [if_neg (by rw [hE.out, hE1]; decide)]
    subst hE1 hN1
    clear hE hN
    have hq := h.keep (fun k hk => hB02.block k (h.lt k hk))
    go_wp2_with fail
    go_ret
    exact ⟨rfl, S, hq, ⟨hB02.os, hB02.tape, hB02.output, hB02.size, fun k hk _ => hB02.block k hk⟩, fun k hk => .inl hk⟩
  have hE0 : audErr st e = 0 := err_zero.2 ⟨hM0, hF⟩
  have hE1 : E = 0 := hE.out.symm.trans hE0
  subst hE1
  have hx40 : (audAll st e.label).length < 40 := by
    unfold audFull at hF
    have := of_decide_eq_false hF
    omega
  have hvv := shv_add hst hE0
  have hll := liv_add hst hE0
  have hlen := add_len0 hE0
  rw [hN.out] at hvv hll hlen
  have hN2 : audNext st e = { e with seq := (((audAll st e.label).length + 1 : Nat) : Int) } := rfl
  rw [hN2] at hvv
  clear hN2 hN hE hF hM0 hst
  obtain ⟨g, rfl, hcase0⟩ := h
  obtain ⟨m, hg, hcase⟩ : ∃ m, BlkL g [.map m] w ∧ ((m = none ∧ S = [g] ∧ st = []) ∨ ∃ b, m = some b ∧ S = [g, b] ∧ g ≠ b ∧ MapG w b (shv st) (liv st) st.length) := by
    rcases hcase0 with ⟨h1, h2, h3⟩ | ⟨b, h1, h2, h3, h4⟩
    · exact ⟨none, h3, .inl ⟨rfl, h1, h2⟩⟩
    · exact ⟨some b, h3, .inr ⟨b, rfl, h1, h2, h4⟩⟩
  clear hcase0
  have hgl : g < w.heap.size := hg.2
  have hgw : w.heap.size ≠ g := by omega
  have hg2 := stab_blk _ _ _ _ hg hB02
  have hc0 := (hg2.1 0 _ rfl).1
  have heq := eqlS_any m
  clear hg
  go_upto_if 17 with fail
  clear heq
  go_cut [] from 13 (fun wc => ∃ b, g ≠ b ∧ w.heap.size ≠ b ∧ (∀ k ∈ [g, b], k ∈ S ∨ w.heap.size ≤ k) ∧ (∀ k ∈ S, k ∈ [g, b]) ∧ BlkL g [.map (some b)] wc ∧ MapG wc b (shv st) (liv st) st.length ∧ BlkL w.heap.size (ecs e) wc ∧ Turned [g, b] w wc)
  case first =>
    rcases hcase with ⟨rfl, rfl, hnil⟩ | ⟨b, rfl, rfl, hgb, hm⟩
    · have hmm := @run_makeMap Tryd.prog
      have hf0 := (hg2.1 0 _ rfl).2
      have hB1 := alloc_below W2 (.map #[] 0)
      have hm1 : MapG (W2.alloc (.map #[] 0)) W2.heap.size (shv st) (liv st) st.length := by
        rw [hnil]
        exact mapG_made W2 (shv [])
      have hg1 := stab_blk _ _ _ _ hg2 hB1
      have hb1 := stab_blk _ _ _ _ hb2 hB1
      have hfz := (hg1.1 0 _ rfl).2
      have hc1 := (hg1.1 0 _ rfl).1
      have hge := hg2.2
      have hne : g ≠ W2.heap.size := by omega
      have hwl : w.heap.size < W2.heap.size := hb2.2
      have hT2 : Turned [g, W2.heap.size] w (W2.alloc (.map #[] 0)) := by
        have := Below.then hB02 hB1
        exact ⟨this.os, this.tape, this.output, this.size, fun k hk _ => this.block k hk⟩
      obtain ⟨Z1, hZ1⟩ : ∃ Z1, W2.alloc (.map #[] 0) = Z1 := ⟨_, rfl⟩
      rw [hZ1] at hB1 hm1 hg1 hb1 hfz hc1 hT2
      obtain ⟨Z2, hZ2⟩ : ∃ Z2, Z1.setCell ⟨g, 0, none⟩ (.map (some W2.heap.size)) = Z2 := ⟨_, rfl⟩
      have hoth : ∀ k, k ≠ g → Z2.heap[k]? = Z1.heap[k]? := fun k hk => by rw [← hZ2]; exact heap_setCell_other Z1 ⟨g, 0, none⟩ k _ hk
      have hsz : Z2.heap.size = Z1.heap.size := by rw [← hZ2]; simp
      have hTZ : Turned [g, W2.heap.size] w Z2 := by
        refine ⟨?_, ?_, ?_, by rw [hsz]; exact hT2.size, fun k hk hn => ?_⟩
        · rw [← hZ2]; exact hT2.os
        · rw [← hZ2]; exact hT2.tape
        · rw [← hZ2]; exact hT2.output
        · rw [hoth k (fun e => hn (by simp [e])), hT2.block k hk hn]
      have hg3 : BlkL g [.map (some W2.heap.size)] Z2 := by
        rw [← hZ2]
        exact ⟨hg1.1.set 0 _ (by simp), by simpa using hg1.2⟩
      have hb3 : BlkL w.heap.size (ecs e) Z2 := hb1.keep (hoth _ hgw)
      have hm3 : MapG Z2 W2.heap.size (shv st) (liv st) st.length := hm1.same (hoth _ (Ne.symm hne))
      have hnew : ∀ k ∈ [g, W2.heap.size], k ∈ [g] ∨ w.heap.size ≤ k := fun k hk => by
        simp at hk
        rcases hk with rfl | rfl
        · exact .inl (by simp)
        · exact .inr (by omega)
      clear hnil hg2 hB1 hm1 hg1 hb1 hoth hsz hT2 hb2 hB02 hvv hll
      go_wp2_with fail
      (try rw [hZ1])
      (try rw [hZ2])
      go_meet
      exact ⟨W2.heap.size, hne, by omega, hnew, fun k hk => by simp at hk; simp [hk], hg3, hm3, hb3, hTZ⟩
    · have hm2 := hm.same (hB02.block _ hm.lt)
      have hwb : w.heap.size ≠ b := fun q => by have := hm.lt; omega
      have hTZ : Turned [g, b] w W2 := ⟨hB02.os, hB02.tape, hB02.output, hB02.size, fun k hk _ => hB02.block k hk⟩
      clear hvv hll hm hB02
      go_wp2_with fail
      go_meet
      exact ⟨b, hgb, hwb, fun k hk => .inl hk, fun k hk => hk, hg2, hm2, hb2, hTZ⟩
  case rest =>
    clear hb2 hB02 hcase hg2 hc0
    obtain ⟨b, hgb, hwb, hS1, hS2, hgZ, hmZ, hbZ, hTZ⟩ := hcut
    obtain ⟨Z, rfl⟩ : ∃ Z, Z = wc := ⟨_, rfl⟩
    have hlk := fun W (q : MapG W b (shv st) (liv st) st.length) => lookG_run und_s zero_s q hGx shv_dead
    have hshv : shv st e.label = .agg (scs (audAll st e.label)).toArray := rfl
    rw [hshv] at hlk
    obtain ⟨xs, hxs⟩ : ∃ xs, audAll st e.label = xs := ⟨_, rfl⟩
    rw [hxs] at hlk hx40 hvv
    clear hshv hxs
    have hx40' : xs.length ≤ 40 := Nat.le_of_lt hx40
    have hszw := hTZ.size
    have hbZl := hbZ.2
    have hmZl := hmZ.lt
    go_upto_region 7 with fail
    go_cut [5] from 22 (fun s5 wd => ∃ b5 : Nat, Z.heap.size ≤ b5 ∧ s5 = .pointer (some ⟨b5, 0, none⟩) ∧ BlkL b5 (scs xs) wd ∧ Below Z.heap.size Z wd)
    case first =>
      have hx40 := hx40'
      have hS0 : (fun W => Below Z.heap.size Z W) Z.drew := (Below.refl _ _).drew
      clear hvv hll
      refine wp_region_held_drew (S := (fun W => Below Z.heap.size Z W)) (by kernel_rfl) (by exact hS0) ?_
      intro hHeld
      generalize Z.drew = w0 at *
      refine wpAnyH_take (i := 0) (v := ?_) (by simp only [gA, gB, gC]; rfl) (by kernel_rfl) (by kernel_rfl) (by kernel_rfl) (by exact fun _ _ _ h => h) (Or.inl ⟨by rfl, ?_⟩) (by assumption) ?_; rotate_left; (focus (intro w hSw; (try dsimp only at hSw); go_simp; try with_reducible rfl)); (try simp only [Act.put, sA, sB, sC])
      refine wpAnyH_take (i := 1) (v := ?_) (by simp only [gA, gB, gC]; rfl) (by kernel_rfl) (by kernel_rfl) (by kernel_rfl) (by exact fun _ _ _ h => h) (Or.inl ⟨by rfl, ?_⟩) (by assumption) ?_; rotate_left; (focus (intro w hSw; (try dsimp only at hSw); go_simp; try with_reducible rfl)); (try simp only [Act.put, sA, sB, sC])
      refine wpAnyH_take (i := 2) (v := ?_) (by simp only [gA, gB, gC]; rfl) (by kernel_rfl) (by kernel_rfl) (by kernel_rfl) (by exact fun _ _ _ h => h) (Or.inl ⟨by rfl, ?_⟩) (by assumption) ?_; rotate_left; (focus (intro w hSw; (try dsimp only at hSw); go_simp; try with_reducible rfl)); (try simp only [Act.put, sA, sB, sC])
      refine wpAnyH_take (i := 3) (v := _) (by simp only [gA, gB, gC]; rfl) (by kernel_rfl) (by kernel_rfl) (by kernel_rfl) (by exact fun _ _ _ h => h) (yields_oneG (by rfl) _ rfl ⟨g, 0, none⟩ rfl (.map (some b)) (fun _ q => ((stab_blk _ _ _ _ hgZ q).1 0 _ rfl).1) mapS_load) (by assumption) ?_; (try simp only [Act.put, sA, sB, sC])
      refine wpAnyH_take (i := 4) (v := ?_) (by simp only [gA, gB, gC]; rfl) (by kernel_rfl) (by kernel_rfl) (by kernel_rfl) (by exact fun _ _ _ h => h) (Or.inl ⟨by rfl, ?_⟩) (by assumption) ?_; rotate_left; (focus (intro w hSw; (try dsimp only at hSw); go_simp; try with_reducible rfl)); (try simp only [Act.put, sA, sB, sC])
      refine wpAnyH_take (i := 5) (v := _) (by simp only [gA, gB, gC]; rfl) (by kernel_rfl) (by kernel_rfl) (by kernel_rfl) (by exact fun _ _ _ h => h) (yields_at (by rfl) _ rfl ⟨w.heap.size, 1, none⟩ rfl (lab4 e.label) (fun _ q => ebox_lab (p := e) (stab_blk _ _ _ _ hbZ q)) hundL rfl hsl) (by assumption) ?_; (try simp only [Act.put, sA, sB, sC])
      refine wpAnyH_take (i := 6) (v := _) (by simp only [gA, gB, gC]; rfl) (by kernel_rfl) (by kernel_rfl) (by kernel_rfl) (by exact fun _ _ _ h => h) (yields_lookG (u := .map (some b)) (v := e.label.v) (by rfl) _ _ rfl rfl rfl (fun W q => hlk W (hmZ.same (q.block _ hmZ.lt)))) (by assumption) ?_; (try simp only [Act.put, sA, sB, sC])
      refine wpAnyH_ready (rs := [7]) (by kernel_rfl) (by simp) ?_
      refine AllReadyH.cons (by simp only [gA, gB, gC]; rfl) (fun K hK => ?_) AllReadyH.nil
      obtain ⟨w2, hw2, hth2, hn2, hb2⟩ := put_new w0 (scs []).toArray 56 (scs xs) (by rw [scs_len hx40]; exact (scs_len (xs := []) (by decide)).symm) (by rw [scs_len hx40]; decide)
      have hS1 := Below.then hS0 (alloc_below w0 (.cells (scs []).toArray 56))
      have hS2 := Below.then hS0 hb2
      have hz0 := hS0.size
      refine step_alloc_s rfl rfl ?_
      (try simp only [Act.put, sA, sB, sC])
      refine hK.out _ _ (hS1) ?_
      clear hHeld hK
      intro hHeld
      (try simp only [Act.put, sA, sB, sC])
      refine wpAnyH_ready (rs := [8]) (by kernel_rfl) (by simp) ?_
      refine AllReadyH.cons (by simp only [gA, gB, gC]; rfl) (fun K hK => ?_) AllReadyH.nil
      refine step_store_part rfl _ _ rfl w0.heap.size 0 rfl (scs xs) rfl hth2 (size_of hx40) (scs_one xs) hw2 ?_
      (try simp only [Act.put, sA, sB, sC])
      refine hK.out _ _ (hS2) ?_
      clear hHeld hK
      intro hHeld
      (try simp only [Act.put, sA, sB, sC])
      refine wpAnyH_done (by kernel_rfl) ?_ _
      go_wp2_with fail
      go_meet
      exact ⟨w0.heap.size, hz0, rfl, hn2, hS2⟩
    case rest =>
      obtain ⟨b5, hz5, rfl, hb5, hBZ⟩ := hcut
      obtain ⟨X, rfl⟩ : ∃ X, X = wc := ⟨_, rfl⟩
      have hgX := stab_blk _ _ _ _ hgZ hBZ
      have hbX := stab_blk _ _ _ _ hbZ hBZ
      have hmX := hmZ.same (hBZ.block _ hmZl)
      have hTX := hTZ.then hBZ
      have hwX : w.heap.size ≠ b5 := by omega
      have hbX5 : b ≠ b5 := by omega
      have hgX5 : g ≠ b5 := by omega
      clear hgZ hbZ hmZ hTZ hBZ hlk
      have hc360 := (hb5.1 360 _ (scs_cnt hx40')).1
      obtain ⟨n, hn⟩ : ∃ n, xs.length = n := ⟨_, rfl⟩
      have hwr : IntKind.i64.wrap ((n : Int) + 1) = (n : Int) + 1 := by rw [IntKind.wrap_i64]; omega
      have hbc := (hbX.1 0 _ rfl).1
      have hbf := (hbX.1 0 _ rfl).2
      rw [hn] at hc360
      obtain ⟨X1, hX1⟩ : ∃ X1, X.setCell ⟨w.heap.size, 0, none⟩ (.int .i64 ((n : Int) + 1)) = X1 := ⟨_, rfl⟩
      obtain ⟨e2, he2⟩ : ∃ e2, ({ e with seq := (n : Int) + 1 } : Ent) = e2 := ⟨_, rfl⟩
      have hoth1 : ∀ k, k ≠ w.heap.size → X1.heap[k]? = X.heap[k]? := fun k hk => by rw [← hX1]; exact heap_setCell_other X ⟨w.heap.size, 0, none⟩ k _ hk
      have hb1 : BlkL w.heap.size (ecs e2) X1 := by rw [← hX1, ← he2]; exact set_seqA X _ e _ hbX
      have h51 : BlkL b5 (scs xs) X1 := hb5.keep (hoth1 _ (Ne.symm hwX))
      have hg1 : BlkL g [.map (some b)] X1 := hgX.keep (hoth1 _ (Ne.symm hgw))
      have hm1 := hmX.same (hoth1 _ (Ne.symm hwb))
      have hT1 : Turned [g, b] w X1 := by rw [← hX1]; exact hTX.cell (p := ⟨w.heap.size, 0, none⟩) (Nat.le_refl _) _
      have hel : e2.label = e.label := by rw [← he2]
      clear hbX hgX hmX hTX
      go_upto_region 9 with fail
      (try rw [hX1])
      have hc361 := (h51.1 360 _ (scs_cnt hx40')).1
      rw [hn] at hc361
      have hr1 := hb1.range
      have i40 : (n : Int) < 40 := by omega
      have hnn : n * 9 + 9 ≤ 361 := by omega
      have hl361 := scs_len hx40'
      obtain ⟨X2, hX2⟩ : ∃ X2, X1.setCells b5 (n * 9) (ecs e2) = X2 := ⟨_, rfl⟩
      have hth2 : X1.there b5 (n * 9) (ecs e2).length := h51.1.thereM (n * 9) _ (by rw [ecs_len, hl361]; exact hnn)
      have h52 : BlkL b5 (setM (scs xs) (n * 9) (ecs e2)) X2 := by
        rw [← hX2]
        exact ⟨Blk.putM _ _ h51.1 (by rw [ecs_len, hl361]; exact hnn), by rw [size_setCells]; exact h51.2⟩
      have hoth2 : ∀ k, k ≠ b5 → X2.heap[k]? = X1.heap[k]? := fun k hk => by rw [← hX2]; exact heap_setCells_other hk _ _ _
      have hb2 : BlkL w.heap.size (ecs e2) X2 := hb1.keep (hoth2 _ hwX)
      have hg2 : BlkL g [.map (some b)] X2 := hg1.keep (hoth2 _ hgX5)
      have hm2 := hm1.same (hoth2 _ hbX5)
      have hT2 : Turned [g, b] w X2 := by rw [← hX2]; exact hT1.cells (Nat.le_trans hszw hz5) _ _
      have hone2 := ent_one e2
      go_upto_region 10 with (first | (refine wpList_load_row rfl _ rfl w.heap.size rfl (ecs e2) hr1 hundE rfl hse ?_) | (refine wpList_store_part rfl _ _ rfl b5 (n * 9) rfl (ecs e2) rfl hth2 hse hone2 hX2 ?_) | fail)
      simp only [Act.put]
      have h360 : (setM (scs xs) (n * 9) (ecs e2))[360]? = some (.int .i64 (n : Int)) := by
        rw [setM_out _ _ _ _ (by rw [ecs_len]; omega), scs_cnt hx40', hn]
      have hc362 := (h52.1 360 _ h360).1
      have hf362 := (h52.1 360 _ h360).2
      obtain ⟨ys, hys⟩ : ∃ ys, xs ++ [e2] = ys := ⟨_, rfl⟩
      obtain ⟨Y, hY⟩ : ∃ Y, X2.setCell ⟨b5, 360, none⟩ (.int .i64 ((n : Int) + 1)) = Y := ⟨_, rfl⟩
      have hoth3 : ∀ k, k ≠ b5 → Y.heap[k]? = X2.heap[k]? := fun k hk => by rw [← hY]; exact heap_setCell_other X2 ⟨b5, 360, none⟩ k _ hk
      have h53 : BlkL b5 (scs ys) Y := by
        rw [← hY, ← hys, ← scs_add hx40 e2, hn]
        exact ⟨h52.1.set 360 _ (by rw [setM_len, hl361]; decide), by simpa using h52.2⟩
      have hb3 : BlkL w.heap.size (ecs e2) Y := hb2.keep (hoth3 _ hwX)
      have hg3 : BlkL g [.map (some b)] Y := hg2.keep (hoth3 _ hgX5)
      have hm3 := hm2.same (hoth3 _ hbX5)
      have hT3 : Turned [g, b] w Y := by rw [← hY]; exact hT2.cell (p := ⟨b5, 360, none⟩) (Nat.le_trans hszw hz5) _
      have hy40 : ys.length ≤ 40 := by rw [← hys]; simp; omega
      have hvv2 : ∀ y, shv N y = if labEq e.label y = true then .agg (scs ys).toArray else shv st y := fun y => by
        rw [hvv, hn, ← hys, ← he2]
        rfl
      clear hth2 hX1 hX2 h51 h52 hb1 hb2 hg1 hg2 hm1 hm2 hT1 hT2 hr1 hc360 hc361 h360 hvv hbc hbf hone2 hb5
      go_upto_region 11 with fail
      (try rw [hY])
      have h5b : b5 ≠ b := Ne.symm hbX5
      have hxb := hwb
      clear hc362 hf362 hY hoth1 hoth2 hoth3
      go_cut [] from 42 (fun wd => MapG wd b (shv N) (liv N) (st.length + 1) ∧ BlkL g [.map (some b)] wd ∧ Turn1 b Y.drew wd)
      case first =>
        have hBd : Below Y.heap.size Y Y.drew := (Below.refl _ _).drew
        have hS0 : (fun W => BlkL g [.map (some b)] W ∧ BlkL w.heap.size (ecs e2) W ∧ BlkL b5 (scs ys) W) Y.drew := ⟨stab_blk _ _ _ _ hg3 hBd, stab_blk _ _ _ _ hb3 hBd, stab_blk _ _ _ _ h53 hBd⟩
        have hM0 := hm3.same (hBd.block _ hm3.lt)
        have hvv := hvv2
        clear hBd hm3 hg3 hb3 h53
        refine wp_region_held_drew (S := (fun W => BlkL g [.map (some b)] W ∧ BlkL w.heap.size (ecs e2) W ∧ BlkL b5 (scs ys) W)) (by kernel_rfl) (by exact hS0) ?_
        intro hHeld
        generalize Y.drew = w0 at *
        refine wpAnyH_take (i := 0) (v := ?_) (by simp only [gA, gB, gC]; rfl) (by kernel_rfl) (by kernel_rfl) (by kernel_rfl) (by exact fun _ _ _ h => h) (Or.inl ⟨by rfl, ?_⟩) (by assumption) ?_; rotate_left; (focus (intro w hSw; (try dsimp only at hSw); go_simp; try with_reducible rfl)); (try simp only [Act.put, sA, sB, sC])
        refine wpAnyH_take (i := 1) (v := ?_) (by simp only [gA, gB, gC]; rfl) (by kernel_rfl) (by kernel_rfl) (by kernel_rfl) (by exact fun _ _ _ h => h) (Or.inl ⟨by rfl, ?_⟩) (by assumption) ?_; rotate_left; (focus (intro w hSw; (try dsimp only at hSw); go_simp; try with_reducible rfl)); (try simp only [Act.put, sA, sB, sC])
        refine wpAnyH_take (i := 2) (v := ?_) (by simp only [gA, gB, gC]; rfl) (by kernel_rfl) (by kernel_rfl) (by kernel_rfl) (by exact fun _ _ _ h => h) (Or.inl ⟨by rfl, ?_⟩) (by assumption) ?_; rotate_left; (focus (intro w hSw; (try dsimp only at hSw); go_simp; try with_reducible rfl)); (try simp only [Act.put, sA, sB, sC])
        refine wpAnyH_take (i := 3) (v := _) (by simp only [gA, gB, gC]; rfl) (by kernel_rfl) (by kernel_rfl) (by kernel_rfl) (by exact fun _ _ _ h => h) (yields_oneG (by rfl) _ rfl ⟨g, 0, none⟩ rfl (.map (some b)) (fun _ q => (q.1.1 0 _ rfl).1) mapS_load) (by assumption) ?_; (try simp only [Act.put, sA, sB, sC])
        refine wpAnyH_take (i := 4) (v := ?_) (by simp only [gA, gB, gC]; rfl) (by kernel_rfl) (by kernel_rfl) (by kernel_rfl) (by exact fun _ _ _ h => h) (Or.inl ⟨by rfl, ?_⟩) (by assumption) ?_; rotate_left; (focus (intro w hSw; (try dsimp only at hSw); go_simp; try with_reducible rfl)); (try simp only [Act.put, sA, sB, sC])
        refine wpAnyH_take (i := 5) (v := _) (by simp only [gA, gB, gC]; rfl) (by kernel_rfl) (by kernel_rfl) (by kernel_rfl) (by exact fun _ _ _ h => h) (yields_at (by rfl) _ rfl ⟨w.heap.size, 1, none⟩ rfl (lab4 e.label) (fun _ q => hel ▸ ebox_lab q.2.1) hundL rfl hsl) (by assumption) ?_; (try simp only [Act.put, sA, sB, sC])
        refine wpAnyH_take (i := 6) (v := _) (by simp only [gA, gB, gC]; rfl) (by kernel_rfl) (by kernel_rfl) (by kernel_rfl) (by exact fun _ _ _ h => h) (yields_row (by rfl) _ rfl b5 rfl (scs ys) (fun _ q => q.2.2.range) hundS rfl (size_of hy40)) (by assumption) ?_; (try simp only [Act.put, sA, sB, sC])
        refine wpAnyH_ready (rs := [7]) (by kernel_rfl) (by simp) ?_
        refine AllReadyH.cons (by simp only [gA, gB, gC]; rfl) (fun K hK => ?_) AllReadyH.nil
        obtain ⟨w1, hrun1, hM1, hT1⟩ := updG_run und_s hM0 hGx (.agg (scs ys).toArray) hvv hll
        have hS1 : (fun W => BlkL g [.map (some b)] W ∧ BlkL w.heap.size (ecs e2) W ∧ BlkL b5 (scs ys) W) w1 := ⟨hT1.blk hS0.1 hgb, hT1.blk hS0.2.1 hxb, hT1.blk hS0.2.2 h5b⟩
        refine step_upd rfl _ _ _ rfl rfl rfl rfl hrun1 ?_
        (try simp only [Act.put, sA, sB, sC])
        refine hK.out _ _ (hS1) ?_
        clear hHeld hK
        intro hHeld
        (try simp only [Act.put, sA, sB, sC])
        refine wpAnyH_done (by kernel_rfl) ?_ _
        go_wp2_with fail
        go_meet
        exact ⟨hM1, hS1.1, hT1⟩
      case rest =>
        obtain ⟨hM, hg4, hT⟩ := hcut
        have hTd : Turned [g, b] w Y.drew := hT3.then (Below.refl _ _).drew
        have hTT := hTd.turn1 hT (by simp)
        have hTS : Turned S w wc := ⟨hTT.os, hTT.tape, hTT.output, hTT.size, fun k hk hn => hTT.block k hk fun q => by
          rcases hS1 k q with q | q
          · exact hn q
          · omega⟩
        rw [← hlen] at hM
        clear hvv2 hll
        go_wp2_with fail
        go_ret
        exact ⟨rfl, [g, b], ⟨g, rfl, .inr ⟨b, rfl, hgb, hg4, hM⟩⟩, hTS, hS1⟩
end Go.Proofs.YtohocomemkckeaaDoor

/-! WHAT IS SEEN, label by label (chapter 14): rows of entries that stand by their labels are alike if each label's entries are. -/
namespace Go.Proofs.YtohocomemkckeaaDoor
open Go.RowKit
set_option maxRecDepth 8000
set_option linter.unusedSimpArgs false
set_option linter.unusedVariables false

theorem all_cons (a : Ent) (r : List Ent) (t : Lab) : audAll (a :: r) t = (if labEq a.label t = true then [a] else []) ++ audAll r t := by
  unfold audAll
  rw [List.filter_cons]
  split <;> rfl
theorem mem_all {l : List Ent} {t : Lab} {x : Ent} : x ∈ audAll l t ↔ x ∈ l ∧ x.label = t := by
  unfold audAll
  rw [List.mem_filter, labEq_iff]
theorem sortE_uniq : ∀ {l r : List Ent}, SortE l → SortE r → (∀ t, audAll l t = audAll r t) → l = r
  | [], [], _, _, _ => rfl
  | [], b :: r, _, _, h => by
    have := h b.label
    rw [all_cons, if_pos ((labEq_iff _ _).2 rfl)] at this
    simp [audAll] at this
  | a :: l, [], _, _, h => by
    have := h a.label
    rw [all_cons, if_pos ((labEq_iff _ _).2 rfl)] at this
    simp [audAll] at this
  | a :: l, b :: r, hl, hr, h => by
    obtain ⟨h1, h2⟩ := List.pairwise_cons.1 hl
    obtain ⟨h3, h4⟩ := List.pairwise_cons.1 hr
    have e1 : lessL a.label b.label = false := by
      have hm : a ∈ audAll (b :: r) a.label := by rw [← h a.label]; exact mem_all.2 ⟨List.mem_cons_self, rfl⟩
      rcases List.mem_cons.1 (mem_all.1 hm).1 with q | q
      · rw [q]; exact less_irr _
      · exact h3 a q
    have e2 : lessL b.label a.label = false := by
      have hm : b ∈ audAll (a :: l) b.label := by rw [h b.label]; exact mem_all.2 ⟨List.mem_cons_self, rfl⟩
      rcases List.mem_cons.1 (mem_all.1 hm).1 with q | q
      · rw [q]; exact less_irr _
      · exact h1 b q
    have e3 : a.label = b.label := by
      rcases less_tot a.label b.label with q | q | q
      · rw [e1] at q; cases q
      · exact q
      · rw [e2] at q; cases q
    have e4 : a = b := by
      have := h a.label
      rw [all_cons, all_cons, if_pos ((labEq_iff _ _).2 rfl), if_pos ((labEq_iff _ _).2 e3.symm)] at this
      simp only [List.cons_append, List.nil_append] at this
      injection this
    subst e4
    rw [sortE_uniq h2 h4 fun t => by
      have := h t
      rw [all_cons, all_cons] at this
      exact List.append_cancel_left this]
theorem seen_sort {l : List Ent} (h : SortE l) (b : Lab) : SortE (audSeen l b) := List.Pairwise.sublist List.filter_sublist h
theorem all_seen (l : List Ent) (b t : Lab) : audAll (audSeen l b) t = if rov b t = true then audAll l t else [] := by
  unfold audAll audSeen
  rw [List.filter_filter]
  by_cases hq : rov b t = true
  · rw [if_pos hq]
    refine List.filter_congr fun x _ => ?_
    cases hx : labEq x.label t
    · rfl
    · rw [(labEq_iff _ _).1 hx, hq]; rfl
  · rw [if_neg hq, List.filter_eq_nil_iff]
    intro x _ k
    simp only [Bool.and_eq_true] at k
    rw [(labEq_iff _ _).1 k.1] at k
    exact hq k.2
theorem all_all (l : List Ent) (s t : Lab) : audAll (audAll l s) t = if labEq s t = true then audAll l t else [] := by
  by_cases hq : labEq s t = true
  · rw [if_pos hq, (labEq_iff _ _).1 hq]
    unfold audAll
    rw [List.filter_filter]
    exact List.filter_congr fun x _ => Bool.and_self _
  · rw [if_neg hq]
    unfold audAll
    rw [List.filter_filter, List.filter_eq_nil_iff]
    intro x _ k
    simp only [Bool.and_eq_true, labEq_iff] at k hq
    exact hq (k.2.symm.trans k.1)
theorem all_append (a b : List Ent) (t : Lab) : audAll (a ++ b) t = audAll a t ++ audAll b t := List.filter_append ..
theorem all_flat (l : List Ent) (t : Lab) : ∀ (xs : List Lab), xs.Nodup → (t ∈ xs → audAll (xs.flatMap (audAll l)) t = audAll l t) ∧ (t ∉ xs → audAll (xs.flatMap (audAll l)) t = [])
  | [], _ => ⟨(fun h => by cases h), fun _ => rfl⟩
  | x :: r, h => by
    obtain ⟨h1, h2⟩ := List.nodup_cons.1 h
    obtain ⟨i1, i2⟩ := all_flat l t r h2
    rw [List.flatMap_cons, all_append, all_all]
    by_cases hq : labEq x t = true
    · obtain rfl := (labEq_iff _ _).1 hq
      rw [if_pos hq, i2 h1, List.append_nil]
      exact ⟨fun _ => rfl, fun q => absurd List.mem_cons_self q⟩
    · rw [if_neg hq, List.nil_append]
      refine ⟨fun q => i1 ?_, fun q => i2 fun k => q (List.mem_cons_of_mem _ k)⟩
      rcases List.mem_cons.1 q with q | q
      · exact absurd ((labEq_iff _ _).2 q.symm) hq
      · exact q
theorem flat_sort (l : List Ent) : ∀ {xs : List Lab}, SortL xs → SortE (xs.flatMap (audAll l))
  | [], _ => List.Pairwise.nil
  | x :: r, h => by
    obtain ⟨h1, h2⟩ := List.pairwise_cons.1 h
    rw [List.flatMap_cons]
    refine List.pairwise_append.2 ⟨?_, flat_sort l h2, fun a ha b hb => ?_⟩
    · refine List.Pairwise.imp_of_mem (R := fun _ _ => True) (fun {a b} ha hb _ => ?_) (List.pairwise_of_forall fun _ _ => trivial)
      rw [(mem_all.1 ha).2, (mem_all.1 hb).2]
      exact less_irr _
    · obtain ⟨y, hy, hb⟩ := List.mem_flatMap.1 hb
      rw [(mem_all.1 ha).2, (mem_all.1 hb).2]
      exact h1 y hy
/-- Those of the labels below, one label behind the other. -/
theorem seen_flat {l : List Ent} {xs : List Lab} {b : Lab} (hl : SortE l) (hn : xs.Nodup) (hs : SortL xs) (hm : ∀ x, x ∈ xs ↔ (audAll l x ≠ [] ∧ rov b x = true)) : xs.flatMap (audAll l) = audSeen l b := by
  refine sortE_uniq (flat_sort l hs) (seen_sort hl b) fun t => ?_
  obtain ⟨i1, i2⟩ := all_flat l t xs hn
  rw [all_seen]
  by_cases hq : rov b t = true
  · rw [if_pos hq]
    by_cases h0 : audAll l t = []
    · rw [h0]
      by_cases hx : t ∈ xs
      · rw [i1 hx, h0]
      · exact i2 hx
    · exact i1 ((hm t).2 ⟨h0, hq⟩)
  · rw [if_neg hq]
    exact i2 fun q => hq ((hm t).1 q).2
end Go.Proofs.YtohocomemkckeaaDoor

/-! SORTS by a closure that may lay blocks of its own (sort.Slice's family): what is asked of the row, of less and of swap; insertion sort. For every stage from the twelfth on. -/
namespace Go.Proofs.YtohocomemkckeaaDoor
open Go.RowKit
set_option maxRecDepth 8000
set_option linter.unusedSimpArgs false
set_option linter.unusedVariables false

/-- S w d: in the world w the row holds d. Less answers lt, and turns nothing that lay there; swap turns the row's block alone. -/
structure Srt {α : Type} [Inhabited α] (n g sf : Nat) (lb sb : Array Value) (lt : α → α → Bool) (blk : Nat) (S : World → Array α → Prop) : Prop where
  enter : ∀ args w, (callFunc g args).run Tryd.prog w = .ok (.enter g args) w
  less : ∀ (w : World) (d : Array α) (i j : Nat), S w d → i < n → j < n → Calls Tryd.prog g (#[.int .i64 (i : Int), .int .i64 (j : Int)] ++ lb) w fun e w' => e = .returned (.bool (lt d[i]! d[j]!)) ∧ Below w.heap.size w w'
  swap : ∀ (w : World) (d : Array α) (i j : Nat), S w d → i < n → j < n → ∃ w', (callFunc sf (#[.int .i64 (i : Int), .int .i64 (j : Int)] ++ sb)).run Tryd.prog w = .ok (.value (.tuple #[])) w' ∧ S w' (Sort.swp d i j) ∧ Turned [blk] w w'
  keep : ∀ {w w' : World} {d : Array α}, S w d → Below w.heap.size w w' → S w' d
  lt : ∀ {w : World} {d : Array α}, S w d → blk < w.heap.size
  size : ∀ {w : World} {d : Array α}, S w d → d.size = n
  few : n < 1000000
  brk : ∀ (w : World) (d : Array α) (a b : Nat), S w d → a ≤ b → b ≤ n → Calls Tryd.prog 72 #[.agg #[.func (.func g) #[] lb, .func (.func sf) #[] sb], .int .i64 (a : Int), .int .i64 (b : Int)] w fun e w' => e = .returned (.tuple #[]) ∧ S w' (Sort.breakPatterns d a b) ∧ Turned [blk] w w'
  far : ∃ B, (∀ {w : World} {d : Array α}, S w d → B ≤ w.heap.size) ∧ ∀ {w w' : World} {d : Array α}, S w d → (∀ k, k < B → w'.heap[k]? = w.heap[k]?) → S w' d
theorem turned_refl (S : List Nat) (w : World) : Turned S w w := ⟨rfl, rfl, rfl, Nat.le_refl _, fun _ _ _ => rfl⟩
theorem turned_below {S : List Nat} {w w' : World} (h : Below w.heap.size w w') : Turned S w w' := ⟨h.os, h.tape, h.output, h.size, fun k hk _ => h.block k hk⟩
theorem Turned.trans {S : List Nat} {w w' w'' : World} (h : Turned S w w') (k : Turned S w' w'') : Turned S w w'' :=
  ⟨k.os.trans h.os, k.tape.trans h.tape, k.output.trans h.output, Nat.le_trans h.size k.size, fun j hj hn => (k.block j (Nat.lt_of_lt_of_le hj h.size) hn).trans (h.block j hj hn)⟩
/-- What a function of the family holds: its row, its box of less and swap, and that nothing else has turned. -/
structure Sr {α : Type} (S : World → Array α → Prop) (blk bx : Nat) (lv sv : Value) (w w' : World) (d : Array α) : Prop where
  row : S w' d
  box : BlkL bx [lv, sv] w'
  ne : bx ≠ blk
  turned : Turned [blk] w w'
section
variable {α : Type} [Inhabited α] {n g sf blk bx : Nat} {lb sb : Array Value} {lt : α → α → Bool} {S : World → Array α → Prop} {lv sv : Value} {w w1 w2 : World} {d : Array α}
theorem Sr.below (h : Sr S blk bx lv sv w w1 d) (K : Srt n g sf lb sb lt blk S) (hb : Below w1.heap.size w1 w2) : Sr S blk bx lv sv w w2 d :=
  ⟨K.keep h.row hb, stab_blk _ _ _ _ h.box hb, h.ne, h.turned.trans (turned_below hb)⟩
theorem Sr.swapped {α : Type} {blk bx : Nat} {S : World → Array α → Prop} {lv sv : Value} {w w1 w2 : World} {d : Array α} (h : Sr S blk bx lv sv w w1 d) {d' : Array α} (hS : S w2 d') (ht : Turned [blk] w1 w2) : Sr S blk bx lv sv w w2 d' :=
  ⟨hS, ht.blk h.box (by simpa using h.ne), h.ne, h.turned.trans ht⟩
theorem Sr.begin (K : Srt n g sf lb sb lt blk S) (hS : S w d) (T : TypeId) : Sr S blk w.heap.size lv sv w (w.alloc (.cells #[lv, sv] T)) d :=
  have hb := alloc_below w (.cells #[lv, sv] T)
  ⟨K.keep hS hb, blkl_alloc w #[lv, sv] T, fun e => by have := K.lt hS; omega, turned_below hb⟩
theorem Srt.lessAt (K : Srt n g sf lb sb lt blk S) {i j : Int} (p q : Nat) (hi : i = (p : Int)) (hj : j = (q : Int)) (hp : p < n) (hq : q < n) (hS : S w d) {v : Bool} (hv : lt d[p]! d[q]! = v) :
    Calls Tryd.prog g (#[.int .i64 i, .int .i64 j] ++ lb) w fun e w' => e = .returned (.bool v) ∧ Below w.heap.size w w' := by
  subst hi hj hv
  exact K.less w d p q hS hp hq
theorem Srt.swapAt (K : Srt n g sf lb sb lt blk S) {i j : Int} (p q : Nat) (hi : i = (p : Int)) (hj : j = (q : Int)) (hp : p < n) (hq : q < n) (h : Sr S blk bx lv sv w1 w d) :
    ∃ w', (callFunc sf (#[.int .i64 i, .int .i64 j] ++ sb)).run Tryd.prog w = .ok (.value (.tuple #[])) w' ∧ Sr S blk bx lv sv w1 w' (Sort.swp d p q) := by
  subst hi hj
  obtain ⟨w', h1, h2, h3⟩ := K.swap w d p q h.row hp hq
  exact ⟨w', h1, h.swapped h2 h3⟩
theorem Sr.c0 {α : Type} {blk bx : Nat} {S : World → Array α → Prop} {lv sv : Value} {w w1 : World} {d : Array α} (h : Sr S blk bx lv sv w w1 d) : w1.cell? ⟨bx, 0, none⟩ = some lv := (h.box.1 0 lv rfl).1
theorem Sr.c1 {α : Type} {blk bx : Nat} {S : World → Array α → Prop} {lv sv : Value} {w w1 : World} {d : Array α} (h : Sr S blk bx lv sv w w1 d) : w1.cell? ⟨bx, 1, none⟩ = some sv := (h.box.1 1 sv rfl).1
end
set_option maxRecDepth 8000 in
set_option maxHeartbeats 4000000 in
theorem sins_any {α : Type} [Inhabited α] {n g sf blk : Nat} {lb sb : Array Value} {lt : α → α → Bool} {S : World → Array α → Prop} (K : Srt n g sf lb sb lt blk S) (a b : Nat) (d : Array α) (w : World) (hS : S w d) (hab : a ≤ b) (hb : b ≤ n) :
    Calls Tryd.prog 70 #[.agg #[.func (.func g) #[] lb, .func (.func sf) #[] sb], .int .i64 (a : Int), .int .i64 (b : Int)] w fun e w' => e = .returned (.tuple #[]) ∧ S w' (Sort.insertionSort lt d a b) ∧ Turned [blk] w w' := by
  have eg := K.enter
  have hn := K.few
  obtain ⟨R, hR⟩ : ∃ R, Sort.insertionSort lt d a b = R := ⟨_, rfl⟩
  rw [hR]
  replace hR : Aside (Sort.insOuter lt a b (a + 1) d = R) := hR
  have h0 := Sr.begin (lv := .func (.func g) #[] lb) (sv := .func (.func sf) #[] sb) K hS 82
  go_enter Tryd.func70, Tryd.ntmps70
  go_wp2_with fail
  generalize w.alloc (.cells #[.func (.func g) #[] lb, .func (.func sf) #[] sb] 82) = W0 at *
  go_loopw [6] (fun t wr => ∃ (i : Nat) (dk : Array α), t = .int .i64 (i : Int) ∧ a < i ∧ i ≤ b + 1 ∧ Sr S blk w.heap.size (.func (.func g) #[] lb) (.func (.func sf) #[] sb) w wr dk ∧ Aside (Sort.insOuter lt a b i dk = R)) (fun t _ => b + 1 - (Go.RowKit.intOf t).toNat)
  case atStart => exact ⟨a + 1, d, by simp, by omega, by omega, h0, hR⟩
  case round =>
    clear h0 hR
    obtain ⟨i, dk, rfl, hai, hib, h, hO⟩ := hrel
    by_cases hlt : i < b
    · replace hO : Aside (Sort.insOuter lt a b (i + 1) (Sort.insInner lt a i dk) = R) := by
        have := hO.out
        rwa [insOuter_go _ _ _ _ _ hlt] at this
      have i1 : (i : Int) < (b : Int) := by omega
      go_wp2_with fail
      go_loopw [7] (fun t wr => ∃ (j : Nat) (dj : Array α), t = .int .i64 (j : Int) ∧ a ≤ j ∧ j ≤ i ∧ Sr S blk w.heap.size (.func (.func g) #[] lb) (.func (.func sf) #[] sb) w wr dj ∧ Aside (Sort.insInner lt a j dj = Sort.insInner lt a i dk)) (fun t _ => (Go.RowKit.intOf t).toNat)
      case atStart => exact ⟨i, dk, rfl, by omega, by omega, h, rfl⟩
      case round =>
        clear h
        obtain ⟨j, dj, rfl, haj, hji, h, hI⟩ := hrel
        have c0 := h.c0
        have c1 := h.c1
        by_cases hja : a < j
        · have i2 : (a : Int) < (j : Int) := by omega
          have kl := K.less wr dj j (j - 1) h.row (by omega) (by omega)
          have ej : (((j - 1 : Nat)) : Int) = (j : Int) - 1 := by omega
          rw [ej] at kl
          cases hlv : lt dj[j]! dj[j - 1]!
          · rw [hlv] at kl
            replace hI : Aside (dj = Sort.insInner lt a i dk) := by
              have := hI.out
              rwa [insInner_stop _ _ _ _ (.inr hlv)] at this
            clear hlv
            go_wp2_with (go_at_fn g; refine kl.mono ?_; rintro e w1 ⟨rfl, hb1⟩)
            exact ⟨⟨i + 1, dj, by simp, by omega, by omega, h.below K hb1, by rw [hI.out]; exact hO⟩, by simp [Go.RowKit.intOf]; omega⟩
          · rw [hlv] at kl
            replace hI : Aside (Sort.insInner lt a (j - 1) (Sort.swp dj j (j - 1)) = Sort.insInner lt a i dk) := by
              have := hI.out
              rwa [insInner_go _ _ _ _ hja hlv] at this
            clear hlv
            go_wp2_with (go_at_fn g; refine kl.mono ?_; rintro e w1 ⟨rfl, hb1⟩; have h1 := h.below K hb1; have c1' := h1.c1; obtain ⟨w2, hsw, hS2, hT2⟩ := K.swap w1 dj j (j - 1) h1.row (by omega) (by omega); rw [ej] at hsw; have h2 := h1.swapped hS2 hT2)
            exact ⟨⟨j - 1, _, by rw [ej], by omega, by omega, h2, hI⟩, by simp [Go.RowKit.intOf]; omega⟩
        · replace hI : Aside (dj = Sort.insInner lt a i dk) := by
            have := hI.out
            rwa [insInner_stop _ _ _ _ (.inl (by omega))] at this
          have i2 : ¬ (a : Int) < (j : Int) := by omega
          go_wp2_with fail
          exact ⟨⟨i + 1, dj, by simp, by omega, by omega, h, by rw [hI.out]; exact hO⟩, by simp [Go.RowKit.intOf]; omega⟩
    · have hR2 := hO.out
      rw [insOuter_stop _ _ _ _ _ hlt] at hR2
      subst hR2
      clear hO
      have i1 : ¬ (i : Int) < (b : Int) := by omega
      go_wp2_with fail
      go_end0
      exact ⟨rfl, h.row, h.turned⟩
end Go.Proofs.YtohocomemkckeaaDoor

/-! SORTS by a closure: siftDown, heapSort. Written by mk_srt.py. -/
namespace Go.Proofs.YtohocomemkckeaaDoor
open Go.RowKit
set_option maxRecDepth 8000
set_option linter.unusedSimpArgs false
set_option linter.unusedVariables false

section
variable {α : Type} [Inhabited α] {lt : α → α → Bool} {hi F root c : Nat} {d : Array α}
theorem sift_end (h : hi ≤ 2 * root + 1) : Sort.siftDown lt hi F root d = d := by rw [Sort.siftDown, dif_pos h]
theorem sift_right (h0 : 2 * root + 2 < hi) (h1 : lt d[F + (2 * root + 1)]! d[F + (2 * root + 1) + 1]! = true) : Sort.siftDown lt hi F root d = if lt d[F + root]! d[F + (2 * root + 2)]! = true then Sort.siftDown lt hi F (2 * root + 2) (Sort.swp d (F + root) (F + (2 * root + 2))) else d := by
  rw [Sort.siftDown, dif_neg (by omega), if_pos (by simp [h1]; omega)]
  cases h : lt d[F + root]! d[F + (2 * root + 2)]!
  · simp
  · simp [h0]
theorem sift_left (h0 : 2 * root + 1 < hi) (h1 : ¬ 2 * root + 2 < hi ∨ lt d[F + (2 * root + 1)]! d[F + (2 * root + 1) + 1]! = false) : Sort.siftDown lt hi F root d = if lt d[F + root]! d[F + (2 * root + 1)]! = true then Sort.siftDown lt hi F (2 * root + 1) (Sort.swp d (F + root) (F + (2 * root + 1))) else d := by
  rw [Sort.siftDown, dif_neg (by omega), if_neg (by rcases h1 with h | h <;> simp [h])]
  cases h : lt d[F + root]! d[F + (2 * root + 1)]!
  · simp
  · simp
end
set_option maxRecDepth 8000 in
set_option maxHeartbeats 8000000 in
theorem ssift_any {α : Type} [Inhabited α] {n g sf blk : Nat} {lb sb : Array Value} {lt : α → α → Bool} {S : World → Array α → Prop} (K : Srt n g sf lb sb lt blk S) (lo hi F : Nat) (d : Array α) (w : World) (hS : S w d) (hb : F + hi ≤ n) (hlo : lo ≤ n) :
    Calls Tryd.prog 81 #[.agg #[.func (.func g) #[] lb, .func (.func sf) #[] sb], .int .i64 (lo : Int), .int .i64 (hi : Int), .int .i64 (F : Int)] w fun e w' => e = .returned (.tuple #[]) ∧ S w' (Sort.siftDown lt hi F lo d) ∧ Turned [blk] w w' := by
  have eg := K.enter
  have hn := K.few
  obtain ⟨R, hR⟩ : ∃ R, Sort.siftDown lt hi F lo d = R := ⟨_, rfl⟩
  rw [hR]
  replace hR : Aside (Sort.siftDown lt hi F lo d = R) := hR
  have h0 := Sr.begin (lv := .func (.func g) #[] lb) (sv := .func (.func sf) #[] sb) K hS 82
  go_enter Tryd.func81, Tryd.ntmps81
  go_wp2_with fail
  generalize w.alloc (.cells #[.func (.func g) #[] lb, .func (.func sf) #[] sb] 82) = W0 at *
  go_loopw [8] (fun t wr => ∃ (r : Nat) (dk : Array α), t = .int .i64 (r : Int) ∧ r ≤ n ∧ Sr S blk w.heap.size (.func (.func g) #[] lb) (.func (.func sf) #[] sb) w wr dk ∧ Aside (Sort.siftDown lt hi F r dk = R)) (fun t _ => hi - (Go.RowKit.intOf t).toNat)
  case atStart => exact ⟨lo, d, rfl, hlo, h0, hR⟩
  case round =>
    clear h0 hR
    obtain ⟨r, dk, rfl, hrn, h, hO⟩ := hrel
    have c0 := h.c0
    have c1 := h.c1
    by_cases hend : hi ≤ 2 * r + 1
    · have hR2 := hO.out
      rw [sift_end hend] at hR2
      subst hR2
      clear hO
      have i1 : (hi : Int) ≤ 2 * (r : Int) + 1 := by omega
      go_wp2_with fail
      go_end0
      exact ⟨rfl, h.row, h.turned⟩
    have i1 : ¬ (hi : Int) ≤ 2 * (r : Int) + 1 := by omega
    by_cases hr2 : 2 * r + 2 < hi
    · have i2 : 2 * (r : Int) + 1 + 1 < (hi : Int) := by omega
      cases hl1 : lt dk[F + (2 * r + 1)]! dk[F + (2 * r + 1) + 1]!
      · have hO2 := hO.out
        rw [sift_left (by omega) (.inr hl1)] at hO2
        clear hO
        cases hl2 : lt dk[F + r]! dk[F + (2 * r + 1)]!
        · rw [hl2, if_neg (by decide)] at hO2
          subst hO2
          go_wp2_with (first | (go_at_fn g; refine (K.lessAt (F + r) (F + (2 * r + 1)) (by omega) (by omega) (by omega) (by omega) h1.row hl2).mono ?_; rintro e w2 ⟨rfl, hb2⟩; have h2 := h1.below K hb2; have c0 := h2.c0; have c1 := h2.c1) | (go_at_fn g; refine (K.lessAt (F + (2 * r + 1)) (F + (2 * r + 1) + 1) (by omega) (by omega) (by omega) (by omega) h.row hl1).mono ?_; rintro e w1 ⟨rfl, hb1⟩; have h1 := h.below K hb1; have c0 := h1.c0; have c1 := h1.c1))
          refine bodyPost_ret (results_none rfl _ _ _) rfl ?_
          exact ⟨rfl, h2.row, h2.turned⟩
        · rw [hl2, if_pos rfl] at hO2
          replace hO2 : Aside _ := hO2
          go_wp2_with (first | (go_at_fn g; refine (K.lessAt (F + r) (F + (2 * r + 1)) (by omega) (by omega) (by omega) (by omega) h1.row hl2).mono ?_; rintro e w2 ⟨rfl, hb2⟩; have h2 := h1.below K hb2; have c0 := h2.c0; have c1 := h2.c1; obtain ⟨w3, hsw, h3⟩ := K.swapAt (i := (F : Int) + (r : Int)) (j := (F : Int) + (2 * (r : Int) + 1)) (F + r) (F + (2 * r + 1)) (by omega) (by omega) (by omega) (by omega) h2) | (go_at_fn g; refine (K.lessAt (F + (2 * r + 1)) (F + (2 * r + 1) + 1) (by omega) (by omega) (by omega) (by omega) h.row hl1).mono ?_; rintro e w1 ⟨rfl, hb1⟩; have h1 := h.below K hb1; have c0 := h1.c0; have c1 := h1.c1))
          exact ⟨⟨2 * r + 1, _, by simp; try omega, by omega, h3, hO2⟩, by simp [Go.RowKit.intOf]; omega⟩
      · have hO2 := hO.out
        rw [sift_right hr2 hl1] at hO2
        clear hO
        cases hl2 : lt dk[F + r]! dk[F + (2 * r + 2)]!
        · rw [hl2, if_neg (by decide)] at hO2
          subst hO2
          go_wp2_with (first | (go_at_fn g; refine (K.lessAt (F + r) (F + (2 * r + 2)) (by omega) (by omega) (by omega) (by omega) h1.row hl2).mono ?_; rintro e w2 ⟨rfl, hb2⟩; have h2 := h1.below K hb2; have c0 := h2.c0; have c1 := h2.c1) | (go_at_fn g; refine (K.lessAt (F + (2 * r + 1)) (F + (2 * r + 1) + 1) (by omega) (by omega) (by omega) (by omega) h.row hl1).mono ?_; rintro e w1 ⟨rfl, hb1⟩; have h1 := h.below K hb1; have c0 := h1.c0; have c1 := h1.c1))
          refine bodyPost_ret (results_none rfl _ _ _) rfl ?_
          exact ⟨rfl, h2.row, h2.turned⟩
        · rw [hl2, if_pos rfl] at hO2
          replace hO2 : Aside _ := hO2
          go_wp2_with (first | (go_at_fn g; refine (K.lessAt (F + r) (F + (2 * r + 2)) (by omega) (by omega) (by omega) (by omega) h1.row hl2).mono ?_; rintro e w2 ⟨rfl, hb2⟩; have h2 := h1.below K hb2; have c0 := h2.c0; have c1 := h2.c1; obtain ⟨w3, hsw, h3⟩ := K.swapAt (i := (F : Int) + (r : Int)) (j := (F : Int) + (2 * (r : Int) + 1 + 1)) (F + r) (F + (2 * r + 2)) (by omega) (by omega) (by omega) (by omega) h2) | (go_at_fn g; refine (K.lessAt (F + (2 * r + 1)) (F + (2 * r + 1) + 1) (by omega) (by omega) (by omega) (by omega) h.row hl1).mono ?_; rintro e w1 ⟨rfl, hb1⟩; have h1 := h.below K hb1; have c0 := h1.c0; have c1 := h1.c1))
          exact ⟨⟨2 * r + 2, _, by simp; try omega, by omega, h3, hO2⟩, by simp [Go.RowKit.intOf]; omega⟩
    · have i2 : ¬ 2 * (r : Int) + 1 + 1 < (hi : Int) := by omega
      have hO2 := hO.out
      rw [sift_left (by omega) (.inl hr2)] at hO2
      clear hO
      cases hl2 : lt dk[F + r]! dk[F + (2 * r + 1)]!
      · rw [hl2, if_neg (by decide)] at hO2
        subst hO2
        go_wp2_with (go_at_fn g; refine (K.lessAt (F + r) (F + (2 * r + 1)) (by omega) (by omega) (by omega) (by omega) h.row hl2).mono ?_; rintro e w2 ⟨rfl, hb2⟩; have h2 := h.below K hb2; have c0 := h2.c0; have c1 := h2.c1)
        refine bodyPost_ret (results_none rfl _ _ _) rfl ?_
        exact ⟨rfl, h2.row, h2.turned⟩
      · rw [hl2, if_pos rfl] at hO2
        replace hO2 : Aside _ := hO2
        go_wp2_with (go_at_fn g; refine (K.lessAt (F + r) (F + (2 * r + 1)) (by omega) (by omega) (by omega) (by omega) h.row hl2).mono ?_; rintro e w2 ⟨rfl, hb2⟩; have h2 := h.below K hb2; have c0 := h2.c0; have c1 := h2.c1; obtain ⟨w3, hsw, h3⟩ := K.swapAt (i := (F : Int) + (r : Int)) (j := (F : Int) + (2 * (r : Int) + 1)) (F + r) (F + (2 * r + 1)) (by omega) (by omega) (by omega) (by omega) h2)
        exact ⟨⟨2 * r + 1, _, by simp; try omega, by omega, h3, hO2⟩, by simp [Go.RowKit.intOf]; omega⟩
set_option maxRecDepth 8000 in
set_option maxHeartbeats 8000000 in
theorem sheap_any {α : Type} [Inhabited α] {n g sf blk : Nat} {lb sb : Array Value} {lt : α → α → Bool} {S : World → Array α → Prop} (K : Srt n g sf lb sb lt blk S) (a b : Nat) (d : Array α) (w : World) (hS : S w d) (hab : a < b) (hb : b ≤ n) :
    Calls Tryd.prog 71 #[.agg #[.func (.func g) #[] lb, .func (.func sf) #[] sb], .int .i64 (a : Int), .int .i64 (b : Int)] w fun e w' => e = .returned (.tuple #[]) ∧ S w' (Sort.heapSort lt d a b) ∧ Turned [blk] w w' := by
  have hn := K.few
  have hund := Tryd.underlying82
  have hsz : (Tryd.prog.info? 82).map (·.size) = some 2 := by kernel_rfl
  obtain ⟨R, hR⟩ : ∃ R, Sort.heapSort lt d a b = R := ⟨_, rfl⟩
  rw [hR]
  obtain ⟨m, hm⟩ : ∃ m, b - a = m := ⟨_, rfl⟩
  obtain ⟨q, hq⟩ : ∃ q, (m - 1) / 2 + 1 = q := ⟨_, rfl⟩
  replace hR : Aside (Sort.heapPop lt a m (Sort.heapBuild lt m a q d) = R) := by
    unfold Sort.heapSort at hR
    rw [hm, hq] at hR
    exact hR
  have eh : (b : Int) - (a : Int) = (m : Int) := by omega
  have e1 : (1 : Int) ≤ (m : Int) := by omega
  have e2 : ((m : Int) - 1) / 2 = (q : Int) - 1 := by omega
  have e3 : ((m : Int) - 1).tdiv 2 = (q : Int) - 1 := by rw [Int.tdiv_eq_ediv_of_nonneg (by omega)]; exact e2
  have hqm : q ≤ m := by omega
  have hmn : a + m ≤ n := by omega
  clear hm hq
  have h0 := Sr.begin (lv := .func (.func g) #[] lb) (sv := .func (.func sf) #[] sb) K hS 82
  go_enter Tryd.func71, Tryd.ntmps71
  go_wp2_with fail
  generalize w.alloc (.cells #[.func (.func g) #[] lb, .func (.func sf) #[] sb] 82) = W0 at *
  go_loopw [9] (fun t wr => ∃ (k : Nat) (dk : Array α), t = .int .i64 ((k : Int) - 1) ∧ k ≤ m ∧ Sr S blk w.heap.size (.func (.func g) #[] lb) (.func (.func sf) #[] sb) w wr dk ∧ Aside (Sort.heapPop lt a m (Sort.heapBuild lt m a k dk) = R)) (fun t _ => (Go.RowKit.intOf t + 1).toNat)
  case atStart => exact ⟨q, d, rfl, hqm, h0, hR⟩
  case round =>
    clear h0 hR e2 e3 hqm
    obtain ⟨k, dk, rfl, hkm, h, hO⟩ := hrel
    cases k with
    | succ k =>
      have hrr := h.box.range
      have ek : ((k + 1 : Nat) : Int) - 1 = (k : Int) := by omega
      rw [ek]
      go_wp2_with (first | (refine wpList_load_row rfl _ rfl w.heap.size rfl [.func (.func g) #[] lb, .func (.func sf) #[] sb] hrr hund rfl hsz ?_) | (go_at_call 81; refine (ssift_any K k m a dk wr h.row hmn (by omega)).mono ?_; rintro e w1 ⟨rfl, hS1, hT1⟩; have h1 := h.swapped hS1 hT1))
      exact ⟨⟨k, _, rfl, by omega, h1, hO⟩, by simp [Go.RowKit.intOf]; try omega⟩
    | zero =>
      replace hO : Aside (Sort.heapPop lt a m dk = R) := hO
      rw [show (((0 : Nat) : Int) - 1) = -1 from rfl]
      go_wp2_with fail
      go_loopw [10] (fun t wr => ∃ (k : Nat) (dk : Array α), t = .int .i64 ((k : Int) - 1) ∧ k ≤ m ∧ Sr S blk w.heap.size (.func (.func g) #[] lb) (.func (.func sf) #[] sb) w wr dk ∧ Aside (Sort.heapPop lt a k dk = R)) (fun t _ => (Go.RowKit.intOf t + 1).toNat)
      case atStart => exact ⟨m, dk, rfl, Nat.le_refl _, h, hO⟩
      case round =>
        clear h hO
        obtain ⟨k, dk, rfl, hkm, h, hO⟩ := hrel
        cases k with
        | succ k =>
          have c1 := h.c1
          have ek : ((k + 1 : Nat) : Int) - 1 = (k : Int) := by omega
          rw [ek]
          obtain ⟨w3, hsw, h3⟩ := K.swapAt (i := (a : Int)) (j := (a : Int) + (k : Int)) a (a + k) rfl (by omega) (by omega) (by omega) h
          have hrr := h3.box.range
          go_wp2_with (first | (refine wpList_load_row rfl _ rfl w.heap.size rfl [.func (.func g) #[] lb, .func (.func sf) #[] sb] hrr hund rfl hsz ?_) | (go_at_call 81; refine (ssift_any K 0 k a _ w3 h3.row (by omega) (by omega)).mono ?_; rintro e w1 ⟨rfl, hS1, hT1⟩; have h1 := h3.swapped hS1 hT1))
          exact ⟨⟨k, _, rfl, by omega, h1, hO⟩, by simp [Go.RowKit.intOf]; try omega⟩
        | zero =>
          have hR2 := hO.out
          rw [Sort.heapPop] at hR2
          subst hR2
          clear hO
          rw [show (((0 : Nat) : Int) - 1) = -1 from rfl]
          go_wp2_with fail
          go_end0
          exact ⟨rfl, h.row, h.turned⟩
end Go.Proofs.YtohocomemkckeaaDoor

/-! SORTS by a closure: partitionEqual. -/
namespace Go.Proofs.YtohocomemkckeaaDoor
open Go.RowKit
set_option maxRecDepth 8000
set_option linter.unusedSimpArgs false
set_option linter.unusedVariables false

section
variable {α : Type} [Inhabited α] {p : α → Bool} {d : Array α} {i j : Nat}
theorem up_go (h : i ≤ j) (hp : p d[i]! = true) : Sort.scanUp p d j i = Sort.scanUp p d j (i + 1) := by rw [Sort.scanUp, if_pos (by simp [h, hp])]
theorem up_end (h : ¬ i ≤ j ∨ p d[i]! = false) : Sort.scanUp p d j i = i := by rw [Sort.scanUp, if_neg (by rcases h with h | h <;> simp [h])]
theorem dn_go (h : i ≤ j) (h0 : 0 < j) (hp : p d[j]! = true) : Sort.scanDown p d i j = Sort.scanDown p d i (j - 1) := by
  cases j with
  | zero => omega
  | succ j => rw [Sort.scanDown, if_pos (by simp [h, hp])]; rfl
theorem dn_end (h : ¬ i ≤ j ∨ p d[j]! = false) : Sort.scanDown p d i j = j := by
  cases j with
  | zero => rw [Sort.scanDown]
  | succ j => rw [Sort.scanDown, if_neg (by rcases h with h | h <;> simp [h])]
end
set_option maxRecDepth 8000 in
set_option maxHeartbeats 8000000 in
theorem sparteq_any {α : Type} [Inhabited α] {n g sf blk : Nat} {lb sb : Array Value} {lt : α → α → Bool} {S : World → Array α → Prop} (K : Srt n g sf lb sb lt blk S) (a b pv : Nat) (d : Array α) (w : World) (hS : S w d) (hap : a ≤ pv) (hpb : pv < b) (hb : b ≤ n) :
    Calls Tryd.prog 76 #[.agg #[.func (.func g) #[] lb, .func (.func sf) #[] sb], .int .i64 (a : Int), .int .i64 (b : Int), .int .i64 (pv : Int)] w fun e w' => e = .returned (.int .i64 (((Sort.partitionEqual lt d a b pv).1 : Nat) : Int)) ∧ S w' (Sort.partitionEqual lt d a b pv).2 ∧ Turned [blk] w w' := by
  have eg := K.enter
  have hn := K.few
  obtain ⟨⟨M, R⟩, hR⟩ : ∃ r, Sort.partitionEqual lt d a b pv = r := ⟨_, rfl⟩
  rw [hR]
  show Calls _ _ _ _ fun e w' => e = .returned (.int .i64 ((M : Nat) : Int)) ∧ S w' R ∧ Turned [blk] w w'
  replace hR : Aside (Sort.partEqLoop lt a (a + 1) (b - 1) (Sort.swp d a pv) = (M, R)) := hR
  have h0 := Sr.begin (lv := .func (.func g) #[] lb) (sv := .func (.func sf) #[] sb) K hS 82
  obtain ⟨w3, hsw, h3⟩ := K.swapAt (i := (a : Int)) (j := (pv : Int)) a pv rfl rfl (by omega) (by omega) h0
  have c1 := h0.c1
  go_enter Tryd.func76, Tryd.ntmps76
  go_wp2_with fail
  generalize w.alloc (.cells #[.func (.func g) #[] lb, .func (.func sf) #[] sb] 82) = W0 at *
  clear h0 hsw c1
  go_loopw [9, 10] (fun t9 t10 wr => ∃ (i j : Nat) (dk : Array α), t9 = .int .i64 (i : Int) ∧ t10 = .int .i64 (j : Int) ∧ a < i ∧ i ≤ j + 2 ∧ j < b ∧ Sr S blk w.heap.size (.func (.func g) #[] lb) (.func (.func sf) #[] sb) w wr dk ∧ Aside (Sort.partEqLoop lt a i j dk = (M, R))) (fun t9 t10 _ => (Go.RowKit.intOf t10 + 1 - Go.RowKit.intOf t9).toNat)
  case atStart => exact ⟨a + 1, b - 1, _, by simp, by congr 1; omega, by omega, by omega, by omega, h3, hR⟩
  case round =>
    clear h3 hR
    obtain ⟨i, j, dk, rfl, rfl, hai, hij, hjb, h, hO⟩ := hrel
    replace hO := hO.out
    rw [Sort.partEqLoop_eq] at hO
    replace hO : Aside _ := hO
    go_upto_block 2 with fail
    go_cut [9] from 20 to 56 (fun s9 wc => ∃ (i2 : Nat), s9 = .int .i64 (i2 : Int) ∧ i ≤ i2 ∧ i2 ≤ j + 2 ∧ Sr S blk w.heap.size (.func (.func g) #[] lb) (.func (.func sf) #[] sb) w wc dk ∧ Aside (Sort.scanUp (fun x => !lt dk[a]! x) dk j i = i2))
    case first =>
      go_wp2_with fail
      go_loopw [9] (fun t9 wr => ∃ (i2 : Nat), t9 = .int .i64 (i2 : Int) ∧ i ≤ i2 ∧ i2 ≤ j + 2 ∧ Sr S blk w.heap.size (.func (.func g) #[] lb) (.func (.func sf) #[] sb) w wr dk ∧ Aside (Sort.scanUp (fun x => !lt dk[a]! x) dk j i = Sort.scanUp (fun x => !lt dk[a]! x) dk j i2)) (fun t9 _ => j + 2 - (Go.RowKit.intOf t9).toNat)
      case atStart => exact ⟨i, rfl, Nat.le_refl _, hij, h, rfl⟩
      case round =>
        clear h hO
        obtain ⟨i2, rfl, hi2, hi2j, h, hI⟩ := hrel
        have c0 := h.c0
        by_cases hle : i2 ≤ j
        · have i1 : (i2 : Int) ≤ (j : Int) := by omega
          cases hl1 : lt dk[a]! dk[i2]!
          · have hI2 := hI.out
            rw [up_go (i := i2) hle (by simp [hl1])] at hI2
            replace hI2 : Aside _ := hI2
            go_wp2_with (go_at_fn g; refine (K.lessAt a i2 rfl rfl (by omega) (by omega) h.row hl1).mono ?_; rintro e w1 ⟨rfl, hb1⟩; have h1 := h.below K hb1)
            exact ⟨⟨i2 + 1, by simp, by omega, by omega, h1, hI2⟩, by simp [Go.RowKit.intOf]; omega⟩
          · have hI2 := hI.out
            rw [up_end (i := i2) (.inr (by simp [hl1]))] at hI2
            replace hI2 : Aside _ := hI2
            go_wp2_with (go_at_fn g; refine (K.lessAt a i2 rfl rfl (by omega) (by omega) h.row hl1).mono ?_; rintro e w1 ⟨rfl, hb1⟩; have h1 := h.below K hb1)
            go_meet
            exact ⟨i2, rfl, hi2, hi2j, h1, hI2⟩
        · have i1 : ¬ (i2 : Int) ≤ (j : Int) := by omega
          have hI2 := hI.out
          rw [up_end (i := i2) (.inl hle)] at hI2
          replace hI2 : Aside _ := hI2
          go_wp2_with fail
          go_meet
          exact ⟨i2, rfl, hi2, hi2j, h, hI2⟩
    case rest =>
      clear h
      obtain ⟨i2, rfl, hi2, hi2j, h, hI⟩ := hcut
      replace hO := hO.out
      rw [hI.out] at hO
      replace hO : Aside _ := hO
      go_upto_block 4 with fail
      go_cut [10] from 20 to 56 (fun s10 wc => ∃ (j2 : Nat), s10 = .int .i64 (j2 : Int) ∧ j2 ≤ j ∧ i2 ≤ j2 + 2 ∧ Sr S blk w.heap.size (.func (.func g) #[] lb) (.func (.func sf) #[] sb) w wc dk ∧ Aside (Sort.scanDown (fun x => lt dk[a]! x) dk i2 j = j2))
      case first =>
        go_wp2_with fail
        go_loopw [10] (fun t10 wr => ∃ (j2 : Nat), t10 = .int .i64 (j2 : Int) ∧ j2 ≤ j ∧ i2 ≤ j2 + 2 ∧ Sr S blk w.heap.size (.func (.func g) #[] lb) (.func (.func sf) #[] sb) w wr dk ∧ Aside (Sort.scanDown (fun x => lt dk[a]! x) dk i2 j = Sort.scanDown (fun x => lt dk[a]! x) dk i2 j2)) (fun t10 _ => (Go.RowKit.intOf t10).toNat)
        case atStart => exact ⟨j, rfl, Nat.le_refl _, hi2j, h, rfl⟩
        case round =>
          clear h hO hI
          obtain ⟨j2, rfl, hj2, hj2i, h, hI⟩ := hrel
          have c0 := h.c0
          by_cases hle : i2 ≤ j2
          · have i1 : (i2 : Int) ≤ (j2 : Int) := by omega
            cases hl1 : lt dk[a]! dk[j2]!
            · have hI2 := hI.out
              rw [dn_end (j := j2) (.inr (by simp [hl1]))] at hI2
              replace hI2 : Aside _ := hI2
              go_wp2_with (go_at_fn g; refine (K.lessAt a j2 rfl rfl (by omega) (by omega) h.row hl1).mono ?_; rintro e w1 ⟨rfl, hb1⟩; have h1 := h.below K hb1)
              go_meet
              exact ⟨j2, rfl, hj2, hj2i, h1, hI2⟩
            · have hI2 := hI.out
              rw [dn_go (j := j2) hle (by omega) (by simp [hl1])] at hI2
              replace hI2 : Aside _ := hI2
              go_wp2_with (go_at_fn g; refine (K.lessAt a j2 rfl rfl (by omega) (by omega) h.row hl1).mono ?_; rintro e w1 ⟨rfl, hb1⟩; have h1 := h.below K hb1)
              exact ⟨⟨j2 - 1, by simp; omega, by omega, by omega, h1, hI2⟩, by simp [Go.RowKit.intOf]; omega⟩
          · have i1 : ¬ (i2 : Int) ≤ (j2 : Int) := by omega
            have hI2 := hI.out
            rw [dn_end (j := j2) (.inl hle)] at hI2
            replace hI2 : Aside _ := hI2
            go_wp2_with fail
            go_meet
            exact ⟨j2, rfl, hj2, hj2i, h, hI2⟩
      case rest =>
        clear h hI
        obtain ⟨j2, rfl, hj2, hj2i, h, hI⟩ := hcut
        replace hO := hO.out
        rw [hI.out] at hO
        have c1 := h.c1
        clear hI
        by_cases hgt : i2 > j2
        · rw [if_pos hgt] at hO
          injection hO with e1 e2
          subst e1 e2
          have i1 : (j2 : Int) < (i2 : Int) := by omega
          go_wp2_with fail
          go_ret
          exact ⟨rfl, h.row, h.turned⟩
        · rw [if_neg hgt] at hO
          replace hO : Aside _ := hO
          have i1 : ¬ (j2 : Int) < (i2 : Int) := by omega
          obtain ⟨w3, hsw, h3⟩ := K.swapAt (i := (i2 : Int)) (j := (j2 : Int)) i2 j2 rfl rfl (by omega) (by omega) h
          go_wp2_with fail
          exact ⟨⟨i2 + 1, j2 - 1, _, by simp, by simp; omega, by omega, by omega, by omega, h3, hO⟩, by simp [Go.RowKit.intOf]; omega⟩
end Go.Proofs.YtohocomemkckeaaDoor

/-! SORTS by a closure: partition. Written by mk_srt.py. -/
namespace Go.Proofs.YtohocomemkckeaaDoor
open Go.RowKit
set_option maxRecDepth 8000
set_option linter.unusedSimpArgs false
set_option linter.unusedVariables false

theorem part_two {α : Type} [Inhabited α] (lt : α → α → Bool) (d : Array α) (a b pv : Nat) : Sort.partition lt d a b pv =
    if Sort.scanUp (fun x => lt x (Sort.swp d a pv)[a]!) (Sort.swp d a pv) (b - 1) (a + 1) > Sort.scanDown (fun x => !lt x (Sort.swp d a pv)[a]!) (Sort.swp d a pv) (Sort.scanUp (fun x => lt x (Sort.swp d a pv)[a]!) (Sort.swp d a pv) (b - 1) (a + 1)) (b - 1) then (Sort.scanDown (fun x => !lt x (Sort.swp d a pv)[a]!) (Sort.swp d a pv) (Sort.scanUp (fun x => lt x (Sort.swp d a pv)[a]!) (Sort.swp d a pv) (b - 1) (a + 1)) (b - 1), true, Sort.swp (Sort.swp d a pv) (Sort.scanDown (fun x => !lt x (Sort.swp d a pv)[a]!) (Sort.swp d a pv) (Sort.scanUp (fun x => lt x (Sort.swp d a pv)[a]!) (Sort.swp d a pv) (b - 1) (a + 1)) (b - 1)) a) else
      let r := Sort.partLoop lt a (Sort.scanUp (fun x => lt x (Sort.swp d a pv)[a]!) (Sort.swp d a pv) (b - 1) (a + 1) + 1) (Sort.scanDown (fun x => !lt x (Sort.swp d a pv)[a]!) (Sort.swp d a pv) (Sort.scanUp (fun x => lt x (Sort.swp d a pv)[a]!) (Sort.swp d a pv) (b - 1) (a + 1)) (b - 1) - 1) (Sort.swp (Sort.swp d a pv) (Sort.scanUp (fun x => lt x (Sort.swp d a pv)[a]!) (Sort.swp d a pv) (b - 1) (a + 1)) (Sort.scanDown (fun x => !lt x (Sort.swp d a pv)[a]!) (Sort.swp d a pv) (Sort.scanUp (fun x => lt x (Sort.swp d a pv)[a]!) (Sort.swp d a pv) (b - 1) (a + 1)) (b - 1)))
      (r.1, false, Sort.swp r.2 r.1 a) := rfl
set_option maxRecDepth 16000 in
set_option maxHeartbeats 8000000 in
theorem spart_any {α : Type} [Inhabited α] {n g sf blk : Nat} {lb sb : Array Value} {lt : α → α → Bool} {S : World → Array α → Prop} (K : Srt n g sf lb sb lt blk S) (a b pv : Nat) (d : Array α) (w : World) (hS : S w d) (hap : a ≤ pv) (hpb : pv < b) (hb : b ≤ n) :
    Calls Tryd.prog 77 #[.agg #[.func (.func g) #[] lb, .func (.func sf) #[] sb], .int .i64 (a : Int), .int .i64 (b : Int), .int .i64 (pv : Int)] w fun e w' => e = .returned (.tuple #[.int .i64 (((Sort.partition lt d a b pv).1 : Nat) : Int), .bool (Sort.partition lt d a b pv).2.1]) ∧ S w' (Sort.partition lt d a b pv).2.2 ∧ Turned [blk] w w' := by
  have eg := K.enter
  have hn := K.few
  obtain ⟨⟨M, A, R⟩, hR⟩ : ∃ r, Sort.partition lt d a b pv = r := ⟨_, rfl⟩
  rw [hR]
  show Calls _ _ _ _ fun e w' => e = .returned (.tuple #[.int .i64 ((M : Nat) : Int), .bool A]) ∧ S w' R ∧ Turned [blk] w w'
  rw [part_two] at hR
  have h0 := Sr.begin (lv := .func (.func g) #[] lb) (sv := .func (.func sf) #[] sb) K hS 82
  obtain ⟨w3, hsw, h⟩ := K.swapAt (i := (a : Int)) (j := (pv : Int)) a pv rfl rfl (by omega) (by omega) h0
  have c1 := h0.c1
  obtain ⟨i, hi⟩ : ∃ i, a + 1 = i := ⟨_, rfl⟩
  obtain ⟨j, hj⟩ : ∃ j, b - 1 = j := ⟨_, rfl⟩
  obtain ⟨dk, hdk⟩ : ∃ dk, Sort.swp d a pv = dk := ⟨_, rfl⟩
  rw [hi, hj, hdk] at hR
  rw [hdk] at h
  have hO : Aside _ := hR
  have ei : (a : Int) + 1 = (i : Int) := by omega
  have ej : (b : Int) - 1 = (j : Int) := by omega
  have hai : a < i := by omega
  have hij : i ≤ j + 2 := by omega
  have hjb : j < b := by omega
  clear hR hi hj hdk
  go_enter Tryd.func77, Tryd.ntmps77
  go_upto_block 0 with fail
  generalize w.alloc (.cells #[.func (.func g) #[] lb, .func (.func sf) #[] sb] 82) = W0 at *
  clear h0 hsw c1 ei ej
  go_upto_block 0 with fail
  go_cut [10] from 21 (fun s1 wc => ∃ (i2 : Nat), s1 = .int .i64 (i2 : Int) ∧ i ≤ i2 ∧ i2 ≤ j + 2 ∧ Sr S blk w.heap.size (.func (.func g) #[] lb) (.func (.func sf) #[] sb) w wc dk ∧ Aside (Sort.scanUp (fun x => lt x dk[a]!) dk j i = i2))
  case first =>
    go_wp2_with fail
    go_loopw [10] (fun t9 wr => ∃ (i2 : Nat), t9 = .int .i64 (i2 : Int) ∧ i ≤ i2 ∧ i2 ≤ j + 2 ∧ Sr S blk w.heap.size (.func (.func g) #[] lb) (.func (.func sf) #[] sb) w wr dk ∧ Aside (Sort.scanUp (fun x => lt x dk[a]!) dk j i = Sort.scanUp (fun x => lt x dk[a]!) dk j i2)) (fun t9 _ => j + 2 - (Go.RowKit.intOf t9).toNat)
    case atStart => exact ⟨i, rfl, Nat.le_refl _, hij, h, rfl⟩
    case round =>
      clear h hO
      obtain ⟨i2, rfl, hi2, hi2j, h, hI⟩ := hrel
      have c0 := h.c0
      by_cases hle : i2 ≤ j
      · have i1 : (i2 : Int) ≤ (j : Int) := by omega
        cases hl1 : lt dk[i2]! dk[a]!
        · have hI2 := hI.out
          rw [up_end (i := i2) (.inr (by simp [hl1]))] at hI2
          replace hI2 : Aside _ := hI2
          go_wp2_with (go_at_fn g; refine (K.lessAt i2 a rfl rfl (by omega) (by omega) h.row hl1).mono ?_; rintro e w1 ⟨rfl, hb1⟩; have h1 := h.below K hb1)
          go_meet
          exact ⟨i2, rfl, hi2, hi2j, h1, hI2⟩
        · have hI2 := hI.out
          rw [up_go (i := i2) hle (by simp [hl1])] at hI2
          replace hI2 : Aside _ := hI2
          go_wp2_with (go_at_fn g; refine (K.lessAt i2 a rfl rfl (by omega) (by omega) h.row hl1).mono ?_; rintro e w1 ⟨rfl, hb1⟩; have h1 := h.below K hb1)
          exact ⟨⟨i2 + 1, by simp, by omega, by omega, h1, hI2⟩, by simp [Go.RowKit.intOf]; omega⟩
      · have i1 : ¬ (i2 : Int) ≤ (j : Int) := by omega
        have hI2 := hI.out
        rw [up_end (i := i2) (.inl hle)] at hI2
        replace hI2 : Aside _ := hI2
        go_wp2_with fail
        go_meet
        exact ⟨i2, rfl, hi2, hi2j, h, hI2⟩
  case rest =>
    clear h
    obtain ⟨i2, rfl, hi2, hi2j, h, hI⟩ := hcut
    replace hO := hO.out
    rw [hI.out] at hO
    replace hO : Aside _ := hO
    go_upto_block 2 with fail
    go_cut [11] from 21 (fun s1 wc => ∃ (j2 : Nat), s1 = .int .i64 (j2 : Int) ∧ j2 ≤ j ∧ i2 ≤ j2 + 2 ∧ Sr S blk w.heap.size (.func (.func g) #[] lb) (.func (.func sf) #[] sb) w wc dk ∧ Aside (Sort.scanDown (fun x => !lt x dk[a]!) dk i2 j = j2))
    case first =>
      go_wp2_with fail
      go_loopw [11] (fun t10 wr => ∃ (j2 : Nat), t10 = .int .i64 (j2 : Int) ∧ j2 ≤ j ∧ i2 ≤ j2 + 2 ∧ Sr S blk w.heap.size (.func (.func g) #[] lb) (.func (.func sf) #[] sb) w wr dk ∧ Aside (Sort.scanDown (fun x => !lt x dk[a]!) dk i2 j = Sort.scanDown (fun x => !lt x dk[a]!) dk i2 j2)) (fun t10 _ => (Go.RowKit.intOf t10).toNat)
      case atStart => exact ⟨j, rfl, Nat.le_refl _, hi2j, h, rfl⟩
      case round =>
        clear h hO hI
        obtain ⟨j2, rfl, hj2, hj2i, h, hI⟩ := hrel
        have c0 := h.c0
        by_cases hle : i2 ≤ j2
        · have i1 : (i2 : Int) ≤ (j2 : Int) := by omega
          cases hl1 : lt dk[j2]! dk[a]!
          · have hI2 := hI.out
            rw [dn_go (j := j2) hle (by omega) (by simp [hl1])] at hI2
            replace hI2 : Aside _ := hI2
            go_wp2_with (go_at_fn g; refine (K.lessAt j2 a rfl rfl (by omega) (by omega) h.row hl1).mono ?_; rintro e w1 ⟨rfl, hb1⟩; have h1 := h.below K hb1)
            exact ⟨⟨j2 - 1, by simp; omega, by omega, by omega, h1, hI2⟩, by simp [Go.RowKit.intOf]; omega⟩
          · have hI2 := hI.out
            rw [dn_end (j := j2) (.inr (by simp [hl1]))] at hI2
            replace hI2 : Aside _ := hI2
            go_wp2_with (go_at_fn g; refine (K.lessAt j2 a rfl rfl (by omega) (by omega) h.row hl1).mono ?_; rintro e w1 ⟨rfl, hb1⟩; have h1 := h.below K hb1)
            go_meet
            exact ⟨j2, rfl, hj2, hj2i, h1, hI2⟩
        · have i1 : ¬ (i2 : Int) ≤ (j2 : Int) := by omega
          have hI2 := hI.out
          rw [dn_end (j := j2) (.inl hle)] at hI2
          replace hI2 : Aside _ := hI2
          go_wp2_with fail
          go_meet
          exact ⟨j2, rfl, hj2, hj2i, h, hI2⟩
    case rest =>
      clear h hI
      obtain ⟨j2, rfl, hj2, hj2i, h, hI⟩ := hcut
      replace hO := hO.out
      rw [hI.out] at hO
      have c1 := h.c1
      clear hI
      by_cases hgt : i2 > j2
      · rw [if_pos hgt] at hO
        obtain ⟨e1, e2, e3⟩ : j2 = M ∧ true = A ∧ Sort.swp dk j2 a = R := by simpa using hO
        subst e1 e2 e3
        have i1 : (j2 : Int) < (i2 : Int) := by omega
        obtain ⟨w3, hsw, h3⟩ := K.swapAt (i := (j2 : Int)) (j := (a : Int)) j2 a rfl rfl (by omega) (by omega) h
        go_wp2_with fail
        go_ret2
        exact ⟨rfl, h3.row, h3.turned⟩
      · rw [if_neg hgt] at hO
        obtain ⟨⟨M1, R1⟩, hL⟩ : ∃ r, Sort.partLoop lt a (i2 + 1) (j2 - 1) (Sort.swp dk i2 j2) = r := ⟨_, rfl⟩
        rw [hL] at hO
        obtain ⟨e1, e2, e3⟩ : M1 = M ∧ false = A ∧ Sort.swp R1 M1 a = R := by simpa using hO
        subst e1 e2 e3
        replace hL : Aside _ := hL
        clear hO
        have i1 : ¬ (j2 : Int) < (i2 : Int) := by omega
        obtain ⟨w3, hsw, h3⟩ := K.swapAt (i := (i2 : Int)) (j := (j2 : Int)) i2 j2 rfl rfl (by omega) (by omega) h
        go_wp2_with fail
        go_loopw [10, 11] (fun t9 t10 wr => ∃ (i j : Nat) (dk : Array α), t9 = .int .i64 (i : Int) ∧ t10 = .int .i64 (j : Int) ∧ a < i ∧ i ≤ j + 2 ∧ j < b ∧ Sr S blk w.heap.size (.func (.func g) #[] lb) (.func (.func sf) #[] sb) w wr dk ∧ Aside (Sort.partLoop lt a i j dk = (M1, R1))) (fun t9 t10 _ => (Go.RowKit.intOf t10 + 1 - Go.RowKit.intOf t9).toNat)
        case atStart => exact ⟨i2 + 1, j2 - 1, _, by simp, by simp; omega, by omega, by omega, by omega, h3, hL⟩
        case round =>
          clear h3 hL h hsw c1 hij hai hjb hi2 hi2j hj2 hj2i hgt i1
          obtain ⟨i, j, dk, rfl, rfl, hai, hij, hjb, h, hO⟩ := hrel
          replace hO := hO.out
          rw [Sort.partLoop_eq] at hO
          replace hO : Aside _ := hO
          go_upto_block 6 with fail
          go_cut [10] from 64 to 100 (fun s1 wc => ∃ (i2 : Nat), s1 = .int .i64 (i2 : Int) ∧ i ≤ i2 ∧ i2 ≤ j + 2 ∧ Sr S blk w.heap.size (.func (.func g) #[] lb) (.func (.func sf) #[] sb) w wc dk ∧ Aside (Sort.scanUp (fun x => lt x dk[a]!) dk j i = i2))
          case first =>
            go_wp2_with fail
            go_loopw [10] (fun t9 wr => ∃ (i2 : Nat), t9 = .int .i64 (i2 : Int) ∧ i ≤ i2 ∧ i2 ≤ j + 2 ∧ Sr S blk w.heap.size (.func (.func g) #[] lb) (.func (.func sf) #[] sb) w wr dk ∧ Aside (Sort.scanUp (fun x => lt x dk[a]!) dk j i = Sort.scanUp (fun x => lt x dk[a]!) dk j i2)) (fun t9 _ => j + 2 - (Go.RowKit.intOf t9).toNat)
            case atStart => exact ⟨i, rfl, Nat.le_refl _, hij, h, rfl⟩
            case round =>
              clear h hO
              obtain ⟨i2, rfl, hi2, hi2j, h, hI⟩ := hrel
              have c0 := h.c0
              by_cases hle : i2 ≤ j
              · have i1 : (i2 : Int) ≤ (j : Int) := by omega
                cases hl1 : lt dk[i2]! dk[a]!
                · have hI2 := hI.out
                  rw [up_end (i := i2) (.inr (by simp [hl1]))] at hI2
                  replace hI2 : Aside _ := hI2
                  go_wp2_with (go_at_fn g; refine (K.lessAt i2 a rfl rfl (by omega) (by omega) h.row hl1).mono ?_; rintro e w1 ⟨rfl, hb1⟩; have h1 := h.below K hb1)
                  go_meet
                  exact ⟨i2, rfl, hi2, hi2j, h1, hI2⟩
                · have hI2 := hI.out
                  rw [up_go (i := i2) hle (by simp [hl1])] at hI2
                  replace hI2 : Aside _ := hI2
                  go_wp2_with (go_at_fn g; refine (K.lessAt i2 a rfl rfl (by omega) (by omega) h.row hl1).mono ?_; rintro e w1 ⟨rfl, hb1⟩; have h1 := h.below K hb1)
                  exact ⟨⟨i2 + 1, by simp, by omega, by omega, h1, hI2⟩, by simp [Go.RowKit.intOf]; omega⟩
              · have i1 : ¬ (i2 : Int) ≤ (j : Int) := by omega
                have hI2 := hI.out
                rw [up_end (i := i2) (.inl hle)] at hI2
                replace hI2 : Aside _ := hI2
                go_wp2_with fail
                go_meet
                exact ⟨i2, rfl, hi2, hi2j, h, hI2⟩
          case rest =>
            clear h
            obtain ⟨i2, rfl, hi2, hi2j, h, hI⟩ := hcut
            replace hO := hO.out
            rw [hI.out] at hO
            replace hO : Aside _ := hO
            go_upto_block 8 with fail
            go_cut [11] from 64 to 100 (fun s1 wc => ∃ (j2 : Nat), s1 = .int .i64 (j2 : Int) ∧ j2 ≤ j ∧ i2 ≤ j2 + 2 ∧ Sr S blk w.heap.size (.func (.func g) #[] lb) (.func (.func sf) #[] sb) w wc dk ∧ Aside (Sort.scanDown (fun x => !lt x dk[a]!) dk i2 j = j2))
            case first =>
              go_wp2_with fail
              go_loopw [11] (fun t10 wr => ∃ (j2 : Nat), t10 = .int .i64 (j2 : Int) ∧ j2 ≤ j ∧ i2 ≤ j2 + 2 ∧ Sr S blk w.heap.size (.func (.func g) #[] lb) (.func (.func sf) #[] sb) w wr dk ∧ Aside (Sort.scanDown (fun x => !lt x dk[a]!) dk i2 j = Sort.scanDown (fun x => !lt x dk[a]!) dk i2 j2)) (fun t10 _ => (Go.RowKit.intOf t10).toNat)
              case atStart => exact ⟨j, rfl, Nat.le_refl _, hi2j, h, rfl⟩
              case round =>
                clear h hO hI
                obtain ⟨j2, rfl, hj2, hj2i, h, hI⟩ := hrel
                have c0 := h.c0
                by_cases hle : i2 ≤ j2
                · have i1 : (i2 : Int) ≤ (j2 : Int) := by omega
                  cases hl1 : lt dk[j2]! dk[a]!
                  · have hI2 := hI.out
                    rw [dn_go (j := j2) hle (by omega) (by simp [hl1])] at hI2
                    replace hI2 : Aside _ := hI2
                    go_wp2_with (go_at_fn g; refine (K.lessAt j2 a rfl rfl (by omega) (by omega) h.row hl1).mono ?_; rintro e w1 ⟨rfl, hb1⟩; have h1 := h.below K hb1)
                    exact ⟨⟨j2 - 1, by simp; omega, by omega, by omega, h1, hI2⟩, by simp [Go.RowKit.intOf]; omega⟩
                  · have hI2 := hI.out
                    rw [dn_end (j := j2) (.inr (by simp [hl1]))] at hI2
                    replace hI2 : Aside _ := hI2
                    go_wp2_with (go_at_fn g; refine (K.lessAt j2 a rfl rfl (by omega) (by omega) h.row hl1).mono ?_; rintro e w1 ⟨rfl, hb1⟩; have h1 := h.below K hb1)
                    go_meet
                    exact ⟨j2, rfl, hj2, hj2i, h1, hI2⟩
                · have i1 : ¬ (i2 : Int) ≤ (j2 : Int) := by omega
                  have hI2 := hI.out
                  rw [dn_end (j := j2) (.inl hle)] at hI2
                  replace hI2 : Aside _ := hI2
                  go_wp2_with fail
                  go_meet
                  exact ⟨j2, rfl, hj2, hj2i, h, hI2⟩
            case rest =>
              clear h hI
              obtain ⟨j2, rfl, hj2, hj2i, h, hI⟩ := hcut
              replace hO := hO.out
              rw [hI.out] at hO
              have c1 := h.c1
              clear hI
              by_cases hgt : i2 > j2
              · rw [if_pos hgt] at hO
                obtain ⟨e1, e2⟩ := Prod.mk.inj hO
                subst e1 e2
                have i1 : (j2 : Int) < (i2 : Int) := by omega
                obtain ⟨w3, hsw, h3⟩ := K.swapAt (i := (j2 : Int)) (j := (a : Int)) j2 a rfl rfl (by omega) (by omega) h
                go_wp2_with fail
                go_ret2
                exact ⟨rfl, h3.row, h3.turned⟩
              · rw [if_neg hgt] at hO
                replace hO : Aside _ := hO
                have i1 : ¬ (j2 : Int) < (i2 : Int) := by omega
                obtain ⟨w3, hsw, h3⟩ := K.swapAt (i := (i2 : Int)) (j := (j2 : Int)) i2 j2 rfl rfl (by omega) (by omega) h
                go_wp2_with fail
                exact ⟨⟨i2 + 1, j2 - 1, _, by simp, by simp; omega, by omega, by omega, by omega, h3, hO⟩, by simp [Go.RowKit.intOf]; omega⟩
end Go.Proofs.YtohocomemkckeaaDoor

/-! SORTS by a closure: partialInsertionSort. -/
namespace Go.Proofs.YtohocomemkckeaaDoor
open Go.RowKit
set_option maxRecDepth 8000
set_option linter.unusedSimpArgs false
set_option linter.unusedVariables false

section
variable {α : Type} [Inhabited α] {lt : α → α → Bool} {d : Array α} {a b i j s : Nat}
theorem partial_succ : Sort.partialIns lt a b (s + 1) i d = if Sort.scanSorted lt d b i = b then (d, true) else if b - a < 50 then (d, false) else
    Sort.partialIns lt a b s (Sort.scanSorted lt d b i) (if b - Sort.scanSorted lt d b i ≥ 2 then Sort.shiftUp lt b (Sort.scanSorted lt d b i + 1) (if Sort.scanSorted lt d b i - a ≥ 2 then Sort.shiftDown lt (Sort.scanSorted lt d b i - 1) (Sort.swp d (Sort.scanSorted lt d b i) (Sort.scanSorted lt d b i - 1)) else Sort.swp d (Sort.scanSorted lt d b i) (Sort.scanSorted lt d b i - 1)) else (if Sort.scanSorted lt d b i - a ≥ 2 then Sort.shiftDown lt (Sort.scanSorted lt d b i - 1) (Sort.swp d (Sort.scanSorted lt d b i) (Sort.scanSorted lt d b i - 1)) else Sort.swp d (Sort.scanSorted lt d b i) (Sort.scanSorted lt d b i - 1))) := rfl
theorem ss_go (h : i < b) (hp : lt d[i]! d[i - 1]! = false) : Sort.scanSorted lt d b i = Sort.scanSorted lt d b (i + 1) := by rw [Sort.scanSorted, if_pos (by simp [h, hp])]
theorem ss_end (h : ¬ i < b ∨ lt d[i]! d[i - 1]! = true) : Sort.scanSorted lt d b i = i := by rw [Sort.scanSorted, if_neg (by rcases h with h | h <;> simp [h])]
theorem sh_go (h : lt d[j + 1]! d[j]! = true) : Sort.shiftDown lt (j + 1) d = Sort.shiftDown lt j (Sort.swp d (j + 1) j) := by rw [Sort.shiftDown, if_neg (by simp [h])]
theorem sh_end (h : lt d[j + 1]! d[j]! = false) : Sort.shiftDown lt (j + 1) d = d := by rw [Sort.shiftDown, if_pos (by simp [h])]
theorem su_go (h : j < b) (hp : lt d[j]! d[j - 1]! = true) : Sort.shiftUp lt b j d = Sort.shiftUp lt b (j + 1) (Sort.swp d j (j - 1)) := by rw [Sort.shiftUp, if_pos h, if_neg (by simp [hp])]
theorem su_stop (h : j < b) (hp : lt d[j]! d[j - 1]! = false) : Sort.shiftUp lt b j d = d := by rw [Sort.shiftUp, if_pos h, if_pos (by simp [hp])]
theorem su_end (h : ¬ j < b) : Sort.shiftUp lt b j d = d := by rw [Sort.shiftUp, if_neg h]
end
set_option maxRecDepth 16000 in
set_option maxHeartbeats 8000000 in
theorem spartial_any {α : Type} [Inhabited α] {n g sf blk : Nat} {lb sb : Array Value} {lt : α → α → Bool} {S : World → Array α → Prop} (K : Srt n g sf lb sb lt blk S) (a b : Nat) (d : Array α) (w : World) (hS : S w d) (hab : a < b) (hb : b ≤ n) :
    Calls Tryd.prog 75 #[.agg #[.func (.func g) #[] lb, .func (.func sf) #[] sb], .int .i64 (a : Int), .int .i64 (b : Int)] w fun e w' => e = .returned (.bool (Sort.partialInsertionSort lt d a b).2) ∧ S w' (Sort.partialInsertionSort lt d a b).1 ∧ Turned [blk] w w' := by
  have eg := K.enter
  have hn := K.few
  obtain ⟨⟨R, A⟩, hR⟩ : ∃ r, Sort.partialInsertionSort lt d a b = r := ⟨_, rfl⟩
  rw [hR]
  show Calls _ _ _ _ fun e w' => e = .returned (.bool A) ∧ S w' R ∧ Turned [blk] w w'
  replace hR : Aside (Sort.partialIns lt a b 5 (a + 1) d = (R, A)) := hR
  have h0 := Sr.begin (lv := .func (.func g) #[] lb) (sv := .func (.func sf) #[] sb) K hS 82
  go_enter Tryd.func75, Tryd.ntmps75
  go_wp2_with fail
  generalize w.alloc (.cells #[.func (.func g) #[] lb, .func (.func sf) #[] sb] 82) = W0 at *
  go_loopw [7, 8] (fun t7 t8 wr => ∃ (s i : Nat) (dk : Array α), t8 = .int .i64 (5 - (s : Int)) ∧ s ≤ 5 ∧ t7 = .int .i64 (i : Int) ∧ a < i ∧ i ≤ b ∧ Sr S blk w.heap.size (.func (.func g) #[] lb) (.func (.func sf) #[] sb) w wr dk ∧ Aside (Sort.partialIns lt a b s i dk = (R, A))) (fun _ t8 _ => (5 - Go.RowKit.intOf t8).toNat)
  case atStart => exact ⟨5, a + 1, d, rfl, by omega, by simp, by omega, by omega, h0, hR⟩
  case round =>
    clear h0 hR
    obtain ⟨s, i, dk, rfl, hs5, rfl, hai, hib, h, hO⟩ := hrel
    cases s with
    | zero =>
      have hR2 := hO.out
      rw [Sort.partialIns] at hR2
      obtain ⟨e1, e2⟩ := Prod.mk.inj hR2
      subst e1 e2
      clear hO hR2
      rw [show ((5 : Int) - ((0 : Nat) : Int)) = 5 from rfl]
      go_wp2_with fail
      go_ret
      exact ⟨rfl, h.row, h.turned⟩
    | succ s =>
      have i0 : (5 : Int) - ((s + 1 : Nat) : Int) < 5 := by omega
      obtain ⟨z, hz⟩ : ∃ z : Int, (5 : Int) - ((s + 1 : Nat) : Int) = z := ⟨_, rfl⟩
      rw [hz] at i0 ⊢
      replace hO := hO.out
      rw [partial_succ] at hO
      replace hO : Aside _ := hO
      have iz : 0 ≤ z := by omega
      replace hz : Aside (z = 4 - (s : Int)) := by show z = 4 - (s : Int); omega
      go_upto_block 2 with fail
      go_cut [7] from 13 to 90 (fun s7 wc => ∃ (i2 : Nat), s7 = .int .i64 (i2 : Int) ∧ a < i2 ∧ i2 ≤ b ∧ Sr S blk w.heap.size (.func (.func g) #[] lb) (.func (.func sf) #[] sb) w wc dk ∧ Aside (Sort.scanSorted lt dk b i = i2))
      case first =>
        go_wp2_with fail
        go_loopw [7] (fun t7 wr => ∃ (i2 : Nat), t7 = .int .i64 (i2 : Int) ∧ a < i2 ∧ i2 ≤ b ∧ Sr S blk w.heap.size (.func (.func g) #[] lb) (.func (.func sf) #[] sb) w wr dk ∧ Aside (Sort.scanSorted lt dk b i = Sort.scanSorted lt dk b i2)) (fun t7 _ => b - (Go.RowKit.intOf t7).toNat)
        case atStart => exact ⟨i, rfl, hai, hib, h, rfl⟩
        case round =>
          clear h hO
          obtain ⟨i2, rfl, hi2, hi2b, h, hI⟩ := hrel
          have c0 := h.c0
          by_cases hlt : i2 < b
          · have i1 : (i2 : Int) < (b : Int) := by omega
            cases hl1 : lt dk[i2]! dk[i2 - 1]!
            · have hI2 := hI.out
              rw [ss_go (i := i2) hlt hl1] at hI2
              replace hI2 : Aside _ := hI2
              go_wp2_with (go_at_fn g; refine (K.lessAt i2 (i2 - 1) rfl (by omega) (by omega) (by omega) h.row hl1).mono ?_; rintro e w1 ⟨rfl, hb1⟩; have h1 := h.below K hb1)
              exact ⟨⟨i2 + 1, by simp, by omega, by omega, h1, hI2⟩, by simp [Go.RowKit.intOf]; omega⟩
            · have hI2 := hI.out
              rw [ss_end (i := i2) (.inr hl1)] at hI2
              replace hI2 : Aside _ := hI2
              go_wp2_with (go_at_fn g; refine (K.lessAt i2 (i2 - 1) rfl (by omega) (by omega) (by omega) h.row hl1).mono ?_; rintro e w1 ⟨rfl, hb1⟩; have h1 := h.below K hb1)
              go_meet
              exact ⟨i2, rfl, hi2, hi2b, h1, hI2⟩
          · have i1 : ¬ (i2 : Int) < (b : Int) := by omega
            have hI2 := hI.out
            rw [ss_end (i := i2) (.inl hlt)] at hI2
            replace hI2 : Aside _ := hI2
            go_wp2_with fail
            go_meet
            exact ⟨i2, rfl, hi2, hi2b, h, hI2⟩
      case rest =>
        clear h hai hib
        obtain ⟨i2, rfl, hai, hib, h, hI⟩ := hcut
        replace hO := hO.out
        rw [hI.out] at hO
        clear hI
        have c1 := h.c1
        by_cases hib2 : i2 = b
        · rw [if_pos hib2] at hO
          obtain ⟨e1, e2⟩ := Prod.mk.inj hO
          subst e1 e2 hib2
          clear hO
          go_wp2_with fail
          go_ret
          exact ⟨rfl, h.row, h.turned⟩
        rw [if_neg hib2] at hO
        have i1 : ((i2 : Int) == (b : Int)) = false := by simp; omega
        by_cases h50 : b - a < 50
        · rw [if_pos h50] at hO
          obtain ⟨e1, e2⟩ := Prod.mk.inj hO
          subst e1 e2
          clear hO
          have i2 : (b : Int) - (a : Int) < 50 := by omega
          go_wp2_with fail
          go_ret
          exact ⟨rfl, h.row, h.turned⟩
        rw [if_neg h50] at hO
        have i3 : ¬ (b : Int) - (a : Int) < 50 := by omega
        obtain ⟨w3, hsw, h3⟩ := K.swapAt (i := (i2 : Int)) (j := (i2 : Int) - 1) i2 (i2 - 1) rfl (by omega) (by omega) (by omega) h
        obtain ⟨d2, hd2⟩ : ∃ d2, Sort.swp dk i2 (i2 - 1) = d2 := ⟨_, rfl⟩
        rw [hd2] at hO h3
        clear hd2 h
        obtain ⟨d3, hd3⟩ : ∃ d3, (if i2 - a ≥ 2 then Sort.shiftDown lt (i2 - 1) d2 else d2) = d3 := ⟨_, rfl⟩
        rw [hd3] at hO
        obtain ⟨d4, hd4⟩ : ∃ d4, (if b - i2 ≥ 2 then Sort.shiftUp lt b (i2 + 1) d3 else d3) = d4 := ⟨_, rfl⟩
        rw [hd4] at hO
        replace hO : Aside _ := hO
        replace hd3 : Aside _ := hd3
        replace hd4 : Aside _ := hd4
        go_upto_if 47 with fail
        clear hsw c1 i3 h50
        go_cut [9] from 44 to 90 (fun s9 wc => s9 = s9 ∧ Sr S blk w.heap.size (.func (.func g) #[] lb) (.func (.func sf) #[] sb) w wc d3)
        case first =>
          by_cases h2 : i2 - a ≥ 2
          · have hd3' := hd3.out
            rw [if_pos h2] at hd3'
            replace hd3' : Aside _ := hd3'
            have i4 : (2 : Int) ≤ (i2 : Int) - (a : Int) := by omega
            clear hO hd3 hd4
            go_wp2_with fail
            go_loopw [9] (fun t9 wr => ∃ (q : Nat) (dq : Array α), t9 = .int .i64 (q : Int) ∧ q < i2 ∧ Sr S blk w.heap.size (.func (.func g) #[] lb) (.func (.func sf) #[] sb) w wr dq ∧ Aside (Sort.shiftDown lt q dq = d3)) (fun t9 _ => (Go.RowKit.intOf t9).toNat)
            case atStart => exact ⟨i2 - 1, d2, by congr 1; omega, by omega, h3, hd3'⟩
            case round =>
              clear h3 hd3'
              obtain ⟨q, dq, rfl, hqi, h, hI⟩ := hrel
              have c0 := h.c0
              have c1 := h.c1
              cases q with
              | zero =>
                have hI2 := hI.out
                rw [Sort.shiftDown] at hI2
                subst hI2
                go_wp2_with fail
                go_meet
                exact ⟨trivial, h⟩
              | succ q =>
                have eq1 : ((q + 1 : Nat) : Int) = (q : Int) + 1 := by omega
                rw [eq1]
                cases hl1 : lt dq[q + 1]! dq[q]!
                · have hI2 := hI.out
                  rw [sh_end hl1] at hI2
                  subst hI2
                  go_wp2_with (go_at_fn g; refine (K.lessAt (q + 1) q (by omega) (by omega) (by omega) (by omega) h.row hl1).mono ?_; rintro e w1 ⟨rfl, hb1⟩; have h1 := h.below K hb1)
                  go_meet
                  exact ⟨trivial, h1⟩
                · have hI2 := hI.out
                  rw [sh_go hl1] at hI2
                  replace hI2 : Aside _ := hI2
                  go_wp2_with (go_at_fn g; refine (K.lessAt (q + 1) q (by omega) (by omega) (by omega) (by omega) h.row hl1).mono ?_; rintro e w1 ⟨rfl, hb1⟩; have h1 := h.below K hb1; have c1 := h1.c1; obtain ⟨w4, hsw, h4⟩ := K.swapAt (i := (q : Int) + 1) (j := (q : Int)) (q + 1) q (by omega) (by omega) (by omega) (by omega) h1)
                  exact ⟨⟨q, _, by simp, by omega, h4, hI2⟩, by simp [Go.RowKit.intOf]⟩
          · have hd3' := hd3.out
            rw [if_neg h2] at hd3'
            subst hd3'
            have i4 : ¬ (2 : Int) ≤ (i2 : Int) - (a : Int) := by omega
            clear hO hd3 hd4
            go_wp2_with fail
            go_meet
            exact ⟨trivial, h3⟩
        case rest =>
          clear h3 hd3
          obtain ⟨-, h3⟩ := hcut
          by_cases h2 : b - i2 ≥ 2
          · have hd4' := hd4.out
            rw [if_pos h2] at hd4'
            replace hd4' : Aside _ := hd4'
            have i4 : (2 : Int) ≤ (b : Int) - (i2 : Int) := by omega
            clear hd4
            go_wp2_with fail
            go_loopw [10] (fun t9 wr => ∃ (q : Nat) (dq : Array α), t9 = .int .i64 (q : Int) ∧ i2 < q ∧ q ≤ b ∧ Sr S blk w.heap.size (.func (.func g) #[] lb) (.func (.func sf) #[] sb) w wr dq ∧ Aside (Sort.shiftUp lt b q dq = d4)) (fun t9 _ => b - (Go.RowKit.intOf t9).toNat)
            case atStart => exact ⟨i2 + 1, d3, by simp, by omega, by omega, h3, hd4'⟩
            case round =>
              clear h3 hd4'
              obtain ⟨q, dq, rfl, hqi, hqb, h, hI⟩ := hrel
              have c0 := h.c0
              have c1 := h.c1
              by_cases hlt : q < b
              · have i5 : (q : Int) < (b : Int) := by omega
                cases hl1 : lt dq[q]! dq[q - 1]!
                · have hI2 := hI.out
                  rw [su_stop hlt hl1] at hI2
                  subst hI2
                  go_wp2_with (go_at_fn g; refine (K.lessAt q (q - 1) rfl (by omega) (by omega) (by omega) h.row hl1).mono ?_; rintro e w1 ⟨rfl, hb1⟩; have h1 := h.below K hb1)
                  exact ⟨⟨s, i2, _, by congr 1; have := hz.out; omega, by omega, rfl, hai, hib, h1, hO⟩, by have := hz.out; simp [Go.RowKit.intOf]; omega⟩
                · have hI2 := hI.out
                  rw [su_go hlt hl1] at hI2
                  replace hI2 : Aside _ := hI2
                  go_wp2_with (go_at_fn g; refine (K.lessAt q (q - 1) rfl (by omega) (by omega) (by omega) h.row hl1).mono ?_; rintro e w1 ⟨rfl, hb1⟩; have h1 := h.below K hb1; have c1 := h1.c1; obtain ⟨w4, hsw, h4⟩ := K.swapAt (i := (q : Int)) (j := (q : Int) - 1) q (q - 1) rfl (by omega) (by omega) (by omega) h1)
                  exact ⟨⟨q + 1, _, by simp, by omega, by omega, h4, hI2⟩, by simp [Go.RowKit.intOf]; omega⟩
              · have i5 : ¬ (q : Int) < (b : Int) := by omega
                have hI2 := hI.out
                rw [su_end hlt] at hI2
                subst hI2
                go_wp2_with fail
                exact ⟨⟨s, i2, _, by congr 1; have := hz.out; omega, by omega, rfl, hai, hib, h, hO⟩, by have := hz.out; simp [Go.RowKit.intOf]; omega⟩
          · have hd4' := hd4.out
            rw [if_neg h2] at hd4'
            subst hd4'
            have i4 : ¬ (2 : Int) ≤ (b : Int) - (i2 : Int) := by omega
            go_wp2_with fail
            exact ⟨⟨s, i2, _, by congr 1; have := hz.out; omega, by omega, rfl, hai, hib, h3, hO⟩, by have := hz.out; simp [Go.RowKit.intOf]; omega⟩
end Go.Proofs.YtohocomemkckeaaDoor

/-! SORTS by a closure: order2, median, medianAdjacent, choosePivot; reverseRange. -/
namespace Go.Proofs.YtohocomemkckeaaDoor
open Go.RowKit
set_option maxRecDepth 8000
set_option linter.unusedSimpArgs false
set_option linter.unusedVariables false

set_option maxRecDepth 8000 in
set_option maxHeartbeats 4000000 in
theorem sorder_any {α : Type} [Inhabited α] {n g sf blk cb : Nat} {lb sb : Array Value} {lt : α → α → Bool} {S : World → Array α → Prop} (K : Srt n g sf lb sb lt blk S) (a b s : Nat) (d : Array α) (w : World) (hS : S w d) (hc : BlkL cb [.int .i64 (s : Int)] w) (hk : ∀ {w w' : World}, S w d → (∀ k, k ≠ cb → w'.heap[k]? = w.heap[k]?) → S w' d) (ha : a < n) (hb : b < n) (hs : s < 1000) :
    Calls Tryd.prog 92 #[.agg #[.func (.func g) #[] lb, .func (.func sf) #[] sb], .int .i64 (a : Int), .int .i64 (b : Int), .pointer (some ⟨cb, 0, none⟩)] w fun e w' => e = .returned (.tuple #[.int .i64 ((Sort.order2 lt d a b s).1 : Int), .int .i64 ((Sort.order2 lt d a b s).2.1 : Int)]) ∧ S w' d ∧ BlkL cb [.int .i64 ((Sort.order2 lt d a b s).2.2 : Int)] w' ∧ Turned [cb] w w' := by
  have eg := K.enter
  have hn := K.few
  have hb0 := blkl_alloc w #[.func (.func g) #[] lb, .func (.func sf) #[] sb] 82
  have hB0 := alloc_below w (.cells #[.func (.func g) #[] lb, .func (.func sf) #[] sb] 82)
  have c0 := (hb0.1 0 _ rfl).1
  have hS0 := K.keep hS hB0
  have hc0 := stab_blk _ _ _ _ hc hB0
  unfold Sort.order2
  cases hl1 : lt d[b]! d[a]!
  · rw [if_neg (by decide)]
    show Calls _ _ _ _ fun e w' => e = .returned (.tuple #[.int .i64 (a : Int), .int .i64 (b : Int)]) ∧ S w' d ∧ BlkL cb [.int .i64 (s : Int)] w' ∧ Turned [cb] w w'
    go_enter Tryd.func92, Tryd.ntmps92
    go_wp2_with (go_at_fn g; refine (K.lessAt b a rfl rfl hb ha hS0 hl1).mono ?_; rintro e w1 ⟨rfl, hb1⟩)
    go_ret2
    exact ⟨rfl, K.keep hS0 hb1, stab_blk _ _ _ _ hc0 hb1, turned_below (Below.then hB0 hb1)⟩
  · rw [if_pos rfl]
    show Calls _ _ _ _ fun e w' => e = .returned (.tuple #[.int .i64 (b : Int), .int .i64 (a : Int)]) ∧ S w' d ∧ BlkL cb [.int .i64 ((s + 1 : Nat) : Int)] w' ∧ Turned [cb] w w'
    have es : ((s + 1 : Nat) : Int) = (s : Int) + 1 := by omega
    rw [es]
    go_enter Tryd.func92, Tryd.ntmps92
    go_wp2_with (go_at_fn g; refine (K.lessAt b a rfl rfl hb ha hS0 hl1).mono ?_; rintro e w1 ⟨rfl, hb1⟩; have hc1 := stab_blk _ _ _ _ hc0 hb1; have c2 := (hc1.1 0 _ rfl).1; have f2 := (hc1.1 0 _ rfl).2)
    go_ret2
    have hB1 := Below.then hB0 hb1
    refine ⟨rfl, hk (K.keep hS0 hb1) (fun k hk => heap_setCell_other _ ⟨cb, 0, none⟩ k _ hk), ⟨hc1.1.set 0 _ (by simp), by simpa using hc1.2⟩, hB1.os, hB1.tape, hB1.output, by simpa using hB1.size, fun k hk hn => ?_⟩
    rw [heap_setCell_other _ ⟨cb, 0, none⟩ k _ (by simpa using hn)]
    exact hB1.block k hk
section
variable {α : Type} [Inhabited α] (lt : α → α → Bool) (d : Array α) (a b c s : Nat)
theorem order_lt {n : Nat} (ha : a < n) (hb : b < n) : (Sort.order2 lt d a b s).1 < n ∧ (Sort.order2 lt d a b s).2.1 < n := by
  rcases Sort.order2_mem lt d a b s with ⟨h1, h2⟩ | ⟨h1, h2⟩ <;> rw [h1, h2]
  · exact ⟨ha, hb⟩
  · exact ⟨hb, ha⟩
theorem order_count : (Sort.order2 lt d a b s).2.2 ≤ s + 1 := by
  unfold Sort.order2
  split <;> simp
theorem median_count : (Sort.median lt d a b c s).2 ≤ s + 3 := by
  have h1 := order_count lt d a b s
  have h2 := order_count lt d (Sort.order2 lt d a b s).2.1 c (Sort.order2 lt d a b s).2.2
  have h3 := order_count lt d (Sort.order2 lt d a b s).1 (Sort.order2 lt d (Sort.order2 lt d a b s).2.1 c (Sort.order2 lt d a b s).2.2).1 (Sort.order2 lt d (Sort.order2 lt d a b s).2.1 c (Sort.order2 lt d a b s).2.2).2.2
  show (Sort.order2 lt d (Sort.order2 lt d a b s).1 (Sort.order2 lt d (Sort.order2 lt d a b s).2.1 c (Sort.order2 lt d a b s).2.2).1 (Sort.order2 lt d (Sort.order2 lt d a b s).2.1 c (Sort.order2 lt d a b s).2.2).2.2).2.2 ≤ s + 3
  omega
theorem median_lt {n : Nat} (ha : a < n) (hb : b < n) (hc : c < n) : (Sort.median lt d a b c s).1 < n := by
  rcases Sort.median_mem lt d a b c s with h | h | h <;> rw [h] <;> assumption
end
set_option maxRecDepth 8000 in
set_option maxHeartbeats 4000000 in
theorem smedian_any {α : Type} [Inhabited α] {n g sf blk cb : Nat} {lb sb : Array Value} {lt : α → α → Bool} {S : World → Array α → Prop} (K : Srt n g sf lb sb lt blk S) (a b c s : Nat) (d : Array α) (w : World) (hS : S w d) (hc : BlkL cb [.int .i64 (s : Int)] w) (hk : ∀ {w w' : World}, S w d → (∀ k, k ≠ cb → w'.heap[k]? = w.heap[k]?) → S w' d) (ha : a < n) (hb : b < n) (hcn : c < n) (hs : s < 900) :
    Calls Tryd.prog 85 #[.agg #[.func (.func g) #[] lb, .func (.func sf) #[] sb], .int .i64 (a : Int), .int .i64 (b : Int), .int .i64 (c : Int), .pointer (some ⟨cb, 0, none⟩)] w fun e w' => e = .returned (.int .i64 ((Sort.median lt d a b c s).1 : Int)) ∧ S w' d ∧ BlkL cb [.int .i64 ((Sort.median lt d a b c s).2 : Int)] w' ∧ Turned [cb] w w' := by
  have hund := Tryd.underlying82
  have hsz : (Tryd.prog.info? 82).map (·.size) = some 2 := by kernel_rfl
  have hb0 := blkl_alloc w #[.func (.func g) #[] lb, .func (.func sf) #[] sb] 82
  have hB0 := alloc_below w (.cells #[.func (.func g) #[] lb, .func (.func sf) #[] sb] 82)
  have hne : w.heap.size ≠ cb := fun e => by have := hc.2; omega
  have hS0 := K.keep hS hB0
  have hc0 := stab_blk _ _ _ _ hc hB0
  have hT0 : Turned [cb] w _ := turned_below hB0
  have e1 : Sort.median lt d a b c s = ((Sort.order2 lt d (Sort.order2 lt d a b s).1 (Sort.order2 lt d (Sort.order2 lt d a b s).2.1 c (Sort.order2 lt d a b s).2.2).1 (Sort.order2 lt d (Sort.order2 lt d a b s).2.1 c (Sort.order2 lt d a b s).2.2).2.2).2.1, (Sort.order2 lt d (Sort.order2 lt d a b s).1 (Sort.order2 lt d (Sort.order2 lt d a b s).2.1 c (Sort.order2 lt d a b s).2.2).1 (Sort.order2 lt d (Sort.order2 lt d a b s).2.1 c (Sort.order2 lt d a b s).2.2).2.2).2.2) := rfl
  rw [e1]
  clear e1
  have k1 := fun W q1 q2 => sorder_any (cb := cb) K a b s d W q1 q2 hk ha hb (by omega)
  have l1 := order_lt lt d a b s ha hb
  have m1 := order_count lt d a b s
  generalize Sort.order2 lt d a b s = r1 at *
  obtain ⟨x1, y1, s1⟩ := r1
  simp only at k1 l1 m1 ⊢
  have k2 := fun W q1 q2 => sorder_any (cb := cb) K y1 c s1 d W q1 q2 hk l1.2 hcn (by omega)
  have l2 := order_lt lt d y1 c s1 l1.2 hcn
  have m2 := order_count lt d y1 c s1
  generalize Sort.order2 lt d y1 c s1 = r2 at *
  obtain ⟨x2, y2, s2⟩ := r2
  simp only at k2 l2 m2 ⊢
  have k3 := fun W q1 q2 => sorder_any (cb := cb) K x1 x2 s2 d W q1 q2 hk l1.1 l2.1 (by omega)
  generalize Sort.order2 lt d x1 x2 s2 = r3 at *
  obtain ⟨x3, y3, s3⟩ := r3
  simp only at k3 ⊢
  go_enter Tryd.func85, Tryd.ntmps85
  have hr0 := hb0.range
  go_upto_region 1 with fail
  generalize w.alloc (.cells #[.func (.func g) #[] lb, .func (.func sf) #[] sb] 82) = W0 at *
  go_wp2_with (first | (refine wpList_load_row rfl _ rfl w.heap.size rfl [.func (.func g) #[] lb, .func (.func sf) #[] sb] hr0 hund rfl hsz ?_) | fail)
  refine (k1 _ hS0 hc0).mono ?_
  rintro e W1 ⟨rfl, hS1, hc1, hT1⟩
  have hb1 := hT1.blk hb0 (by simpa using hne)
  have hT01 := hT0.trans hT1
  have hr1 := hb1.range
  clear hr0 hb0 hS0 hc0 hT0 hT1
  go_wp2_with (first | (refine wpList_load_row rfl _ rfl w.heap.size rfl [.func (.func g) #[] lb, .func (.func sf) #[] sb] hr1 hund rfl hsz ?_) | fail)
  refine (k2 _ hS1 hc1).mono ?_
  rintro e W2 ⟨rfl, hS2, hc2, hT2⟩
  have hb2 := hT2.blk hb1 (by simpa using hne)
  have hT02 := hT01.trans hT2
  have hr2 := hb2.range
  clear hr1 hb1 hS1 hc1 hT01 hT2
  go_wp2_with (first | (refine wpList_load_row rfl _ rfl w.heap.size rfl [.func (.func g) #[] lb, .func (.func sf) #[] sb] hr2 hund rfl hsz ?_) | fail)
  refine (k3 _ hS2 hc2).mono ?_
  rintro e W3 ⟨rfl, hS3, hc3, hT3⟩
  go_wp2_with fail
  go_ret
  exact ⟨rfl, hS3, hc3, hT02.trans hT3⟩
set_option maxRecDepth 8000 in
set_option maxHeartbeats 4000000 in
theorem smedadj_any {α : Type} [Inhabited α] {n g sf blk cb : Nat} {lb sb : Array Value} {lt : α → α → Bool} {S : World → Array α → Prop} (K : Srt n g sf lb sb lt blk S) (a s : Nat) (d : Array α) (w : World) (hS : S w d) (hc : BlkL cb [.int .i64 (s : Int)] w) (hk : ∀ {w w' : World}, S w d → (∀ k, k ≠ cb → w'.heap[k]? = w.heap[k]?) → S w' d) (ha : 0 < a) (hb : a + 1 < n) (hs : s < 900) :
    Calls Tryd.prog 84 #[.agg #[.func (.func g) #[] lb, .func (.func sf) #[] sb], .int .i64 (a : Int), .pointer (some ⟨cb, 0, none⟩)] w fun e w' => e = .returned (.int .i64 ((Sort.medianAdjacent lt d a s).1 : Int)) ∧ S w' d ∧ BlkL cb [.int .i64 ((Sort.medianAdjacent lt d a s).2 : Int)] w' ∧ Turned [cb] w w' := by
  have hn := K.few
  have hund := Tryd.underlying82
  have hsz : (Tryd.prog.info? 82).map (·.size) = some 2 := by kernel_rfl
  have hb0 := blkl_alloc w #[.func (.func g) #[] lb, .func (.func sf) #[] sb] 82
  have hB0 := alloc_below w (.cells #[.func (.func g) #[] lb, .func (.func sf) #[] sb] 82)
  have hS0 := K.keep hS hB0
  have hc0 := stab_blk _ _ _ _ hc hB0
  have hT0 : Turned [cb] w _ := turned_below hB0
  have k1 := fun W q1 q2 => smedian_any (cb := cb) K (a - 1) a (a + 1) s d W q1 q2 hk (by omega) (by omega) (by omega) hs
  rw [show Sort.medianAdjacent lt d a s = Sort.median lt d (a - 1) a (a + 1) s from rfl]
  rw [show (((a - 1 : Nat)) : Int) = (a : Int) - 1 by omega, show (((a + 1 : Nat)) : Int) = (a : Int) + 1 by omega] at k1
  generalize Sort.median lt d (a - 1) a (a + 1) s = r1 at *
  have hr0 := hb0.range
  go_enter Tryd.func84, Tryd.ntmps84
  go_upto_region 1 with fail
  generalize w.alloc (.cells #[.func (.func g) #[] lb, .func (.func sf) #[] sb] 82) = W0 at *
  go_wp2_with (first | (refine wpList_load_row rfl _ rfl w.heap.size rfl [.func (.func g) #[] lb, .func (.func sf) #[] sb] hr0 hund rfl hsz ?_) | fail)
  refine (k1 _ hS0 hc0).mono ?_
  rintro e W1 ⟨rfl, hS1, hc1, hT1⟩
  go_wp2_with fail
  go_ret
  exact ⟨rfl, hS1, hc1, hT0.trans hT1⟩
theorem rev_go {α : Type} [Inhabited α] {d : Array α} {i j : Nat} (h : i < j) : Sort.reverseLoop i j d = Sort.reverseLoop (i + 1) (j - 1) (Sort.swp d i j) := by rw [Sort.reverseLoop, if_pos h]
theorem rev_end {α : Type} [Inhabited α] {d : Array α} {i j : Nat} (h : ¬ i < j) : Sort.reverseLoop i j d = d := by rw [Sort.reverseLoop, if_neg h]
set_option maxRecDepth 8000 in
set_option maxHeartbeats 4000000 in
theorem srev_any {α : Type} [Inhabited α] {n g sf blk : Nat} {lb sb : Array Value} {lt : α → α → Bool} {S : World → Array α → Prop} (K : Srt n g sf lb sb lt blk S) (a b : Nat) (d : Array α) (w : World) (hS : S w d) (hab : a < b) (hb : b ≤ n) :
    Calls Tryd.prog 74 #[.agg #[.func (.func g) #[] lb, .func (.func sf) #[] sb], .int .i64 (a : Int), .int .i64 (b : Int)] w fun e w' => e = .returned (.tuple #[]) ∧ S w' (Sort.reverseRange d a b) ∧ Turned [blk] w w' := by
  have hn := K.few
  obtain ⟨R, hR⟩ : ∃ R, Sort.reverseRange d a b = R := ⟨_, rfl⟩
  rw [hR]
  replace hR : Aside (Sort.reverseLoop a (b - 1) d = R) := hR
  have h0 := Sr.begin (lv := .func (.func g) #[] lb) (sv := .func (.func sf) #[] sb) K hS 82
  go_enter Tryd.func74, Tryd.ntmps74
  go_wp2_with fail
  generalize w.alloc (.cells #[.func (.func g) #[] lb, .func (.func sf) #[] sb] 82) = W0 at *
  go_loopw [6, 7] (fun t6 t7 wr => ∃ (i j : Nat) (dk : Array α), t6 = .int .i64 (i : Int) ∧ t7 = .int .i64 (j : Int) ∧ i ≤ j + 2 ∧ j < b ∧ Sr S blk w.heap.size (.func (.func g) #[] lb) (.func (.func sf) #[] sb) w wr dk ∧ Aside (Sort.reverseLoop i j dk = R)) (fun _ t7 _ => (Go.RowKit.intOf t7).toNat)
  case atStart => exact ⟨a, b - 1, d, rfl, by congr 1; omega, by omega, by omega, h0, hR⟩
  case round =>
    clear h0 hR
    obtain ⟨i, j, dk, rfl, rfl, hij, hjb, h, hO⟩ := hrel
    have c1 := h.c1
    by_cases hlt : i < j
    · replace hO := hO.out
      rw [rev_go hlt] at hO
      replace hO : Aside _ := hO
      have i1 : (i : Int) < (j : Int) := by omega
      obtain ⟨w3, hsw, h3⟩ := K.swapAt (i := (i : Int)) (j := (j : Int)) i j rfl rfl (by omega) (by omega) h
      go_wp2_with fail
      exact ⟨⟨i + 1, j - 1, _, by simp, by simp; omega, by omega, by omega, h3, hO⟩, by simp [Go.RowKit.intOf]; omega⟩
    · replace hO := hO.out
      rw [rev_end hlt] at hO
      subst hO
      have i1 : ¬ (i : Int) < (j : Int) := by omega
      go_wp2_with fail
      go_end0
      exact ⟨rfl, h.row, h.turned⟩
end Go.Proofs.YtohocomemkckeaaDoor
