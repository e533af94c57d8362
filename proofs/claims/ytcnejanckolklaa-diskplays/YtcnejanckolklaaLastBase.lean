/-
  ONE SECTOR THAT IS WRITTEN MORE THAN ONCE, AND A CRASH.
-/
import Derived.Test.YtcnejanckolklaaDiskKnown
namespace Go.Proofs.Ytcnejanckolklaa
open Go.RowKit Go.Maps

/-- The buffer behind i writes to sector 1. -/
def LastD (z : List Int) : Nat → DataW (List Int)
  | 0 => .map []
  | i + 1 => (DataW.map []).put (.int .i64 1) (.held (List.replicate 128 (z.getD i 0)))
theorem last_put (z : List Int) (i : Nat) (v : Int) : (LastD z i).put (.int .i64 1) (.held (List.replicate 128 v)) = (DataW.map []).put (.int .i64 1) (.held (List.replicate 128 v)) := by
  cases i with
  | zero => rfl
  | succ i => rfl
def lastOf (z : List Int) : Nat → Int
  | 0 => 0
  | i + 1 => z.getD i 0
theorem last_keys (z : List Int) (i : Nat) : intKeys (LastD z i) = if i = 0 then [] else [1] := by
  cases i <;> rfl
/-- Sector 1 behind the crash. -/
theorem last_read (z : List Int) (i : Nat) (pick : Int) (ks : List Int) (hk : ks.Perm (intKeys (LastD z i))) :
    newestOf (.map []) (crashTo (LastD z i) [pick] ks (fun _ => zeros) ks.length) 1 = List.replicate (frontOf pick).toNat (lastOf z i) ++ List.replicate (128 - (frontOf pick).toNat) 0 ∨ i = 0 ∧ newestOf (.map []) (crashTo (LastD z i) [pick] ks (fun _ => zeros) ks.length) 1 = zeros := by
  rw [last_keys] at hk
  cases i with
  | zero =>
    simp only [if_true] at hk
    obtain rfl : ks = [] := hk.eq_nil
    exact Or.inr ⟨rfl, rfl⟩
  | succ i =>
    left
    rw [if_neg (by omega)] at hk
    obtain rfl : ks = [1] := List.perm_singleton.1 hk
    have hf0 := frontOf_lo pick
    have hf1 := frontOf_hi pick
    have e1 : bufAt (LastD z (i + 1)) 1 = List.replicate 128 (z.getD i 0) := rfl
    show (if (1 : Nat) = (1 : Int).toNat then (bufAt (LastD z (i + 1)) 1).take (frontOf pick).toNat ++ zeros.drop (frontOf pick).toNat else zeros) = _
    rw [if_pos (by decide), e1]
    simp only [zeros, lastOf, List.take_replicate, List.drop_replicate]
    rw [show min (frontOf pick).toNat 128 = (frontOf pick).toNat by omega]

theorem zeros_at (k : Nat) (hk : k < 128) : zeros.getD k 0 = 0 := by
  simp only [zeros, List.getD_eq_getElem?_getD, List.getElem?_replicate]
  rw [if_pos hk]
  rfl
theorem last_at (v : Int) (f k : Nat) (hk : k < 128) (hf : f ≤ 128) : (List.replicate f v ++ List.replicate (128 - f) (0 : Int)).getD k 0 = if k < f then v else 0 := by
  simp only [List.getD_eq_getElem?_getD, List.getElem?_append, List.length_replicate, List.getElem?_replicate]
  split
  · simp
  · rw [if_pos (by omega)]; rfl

theorem byte_wf {n : Int} (h : (Lit.int .u8 n).wf = true) : 0 ≤ n ∧ n < 256 := by
  have h2 : (decide (IntKind.u8.min ≤ n) && decide (n ≤ IntKind.u8.max)) = true := h
  have e1 : IntKind.u8.min = 0 := by decide
  have e2 : IntKind.u8.max = 255 := by decide
  rw [e1, e2] at h2
  simp at h2
  omega

def IsBytes (w : World) (a : Option Addr) (len cap : Nat) (zs : List Int) : Prop :=
  (a = none ∧ len = 0 ∧ cap = 0 ∧ zs = []) ∨
  ∃ x, a = some x ∧ len ≤ cap ∧ cap ≤ maxLen ∧ zs.length = cap ∧ (∀ i, i < zs.length → w.cell? (x.add i) = some (.int .u8 (zs.getD i 0))) ∧ ∀ n ∈ zs, (Lit.int .u8 n).wf = true

end Go.Proofs.Ytcnejanckolklaa
