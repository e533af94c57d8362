/-
  USERS AS PLAIN DATA, AND WHERE THEY LIE; the document's own Find and Check (donjonref9).
-/
import Derived.Test.YtagpjihhnnmhnaaTexts
import Derived.Test.YtagpjihhnnmhnaaLabs
import Derived.Test.YtagpjihhnnmhnaaHashOf
import Derived.Deep.Cut
import Derived.Deep.CutRange
namespace Go.Proofs.Ytagpjihhnnmhnaa
open Go.RowKit
set_option linter.unusedSimpArgs false
set_option linter.unusedVariables false

/-- A user. -/
structure Usr where
  name : ByteArray
  salt : Int
  hash : Nat
  clear : Lab
  off : Bool
abbrev Usr.v (u : Usr) : Value := .agg #[.string u.name, .int .i64 u.salt, .int .u64 (u.hash : Int), .int .i64 u.clear.s, .int .i64 u.clear.c, .int .i64 u.clear.i, .int .i64 u.clear.k, .bool u.off]
def Usr.none : Usr := ⟨⟨#[]⟩, 0, 0, ⟨0, 0, 0, 0⟩, false⟩
/-- A user's eight cells. -/
structure UsrAt (W : World) (p : Addr) (u : Usr) : Prop where
  c0 : W.cell? p = some (.string u.name)
  c1 : W.cell? ⟨p.block, p.off + 1, none⟩ = some (.int .i64 u.salt)
  c2 : W.cell? ⟨p.block, p.off + 2, none⟩ = some (.int .u64 (u.hash : Int))
  c3 : W.cell? ⟨p.block, p.off + 3, none⟩ = some (.int .i64 u.clear.s)
  c4 : W.cell? ⟨p.block, p.off + 4, none⟩ = some (.int .i64 u.clear.c)
  c5 : W.cell? ⟨p.block, p.off + 5, none⟩ = some (.int .i64 u.clear.i)
  c6 : W.cell? ⟨p.block, p.off + 6, none⟩ = some (.int .i64 u.clear.k)
  c7 : W.cell? ⟨p.block, p.off + 7, none⟩ = some (.bool u.off)
theorem UsrAt.below {W W' : World} {p : Addr} {u : Usr} (h : UsrAt W p u) (b : Below W.heap.size W W') : UsrAt W' p u := by
  have hg : p.block < W.heap.size := World.block_lt_of_cell? _ _ h.c0
  exact ⟨(b.cell hg).trans h.c0, (b.cell (p := ⟨p.block, _, Option.none⟩) hg).trans h.c1, (b.cell (p := ⟨p.block, _, Option.none⟩) hg).trans h.c2, (b.cell (p := ⟨p.block, _, Option.none⟩) hg).trans h.c3, (b.cell (p := ⟨p.block, _, Option.none⟩) hg).trans h.c4, (b.cell (p := ⟨p.block, _, Option.none⟩) hg).trans h.c5, (b.cell (p := ⟨p.block, _, Option.none⟩) hg).trans h.c6, (b.cell (p := ⟨p.block, _, Option.none⟩) hg).trans h.c7⟩
/-- Users, one behind the other. -/
def UsrsAt (W : World) (a : Option Addr) (l : List Usr) : Prop := ∀ j u, l[j]? = some u → ∃ y, a = some y ∧ UsrAt W (y.add (j * 8)) u
theorem UsrsAt.below {W W' : World} {a : Option Addr} {l : List Usr} (h : UsrsAt W a l) (b : Below W.heap.size W W') : UsrsAt W' a l := fun j u hu => by
  obtain ⟨y, hy, hc⟩ := h j u hu
  exact ⟨y, hy, hc.below b⟩
def findU (l : List Usr) (n : ByteArray) : Option Usr := l.find? fun u => eqs u.name n

set_option maxHeartbeats 2000000 in
theorem rfind_any (a : Option Addr) (l : List Usr) (m cap : Nat) (hm : l.length = m) (hm2 : m ≤ 1000000) (n : ByteArray) (w : World) (hG : UsrsAt w a l) :
    Calls Try.prog 16 #[.slice a m cap, .string n] w fun e w' => e = .returned (.tuple #[((findU l n).getD Usr.none).v, .bool (findU l n).isSome]) ∧ Below w.heap.size w w' := by
  obtain ⟨r, hr⟩ : ∃ r, findU l n = r := ⟨_, rfl⟩
  rw [hr]
  have hr0 : Aside (r = (l.drop 0).find? fun u => eqs u.name n) := hr.symm
  clear hr
  go_enter Try.func16, Try.ntmps16
  go_wp2_with fail
  go_loopw [6] (fun t6 wr => ∃ i : Nat, i ≤ m ∧ t6 = .int .i64 (i : Int) ∧ wr = w.alloc (.cells #[.string ⟨#[]⟩, .int .i64 0, .int .u64 0, .int .i64 0, .int .i64 0, .int .i64 0, .int .i64 0, .bool false] 40) ∧ Aside (r = (l.drop i).find? fun u => eqs u.name n)) (fun t6 _ => m - (Go.RowKit.intOf t6).toNat)
  case atStart => exact ⟨0, by omega, rfl, rfl, hr0⟩
  case round =>
    obtain ⟨i, hi, rfl, rfl, hall⟩ := hrel
    by_cases hlt : i < m
    · obtain ⟨u, hu⟩ : ∃ u, l[i]? = some u := ⟨_, List.getElem?_eq_getElem (by omega)⟩
      have hd : (l.drop i).find? (fun u => eqs u.name n) = if eqs u.name n = true then some u else (l.drop (i + 1)).find? fun u => eqs u.name n := by
        have hil := (List.getElem?_eq_some_iff.1 hu).1
        rw [List.drop_eq_getElem_cons hil, (List.getElem?_eq_some_iff.1 hu).2, List.find?_cons]
        cases eqs u.name n <;> rfl
      rw [hd] at hall
      obtain ⟨y, rfl, hU⟩ := (hG.below ((Below.refl _ _).alloc (Nat.le_refl _) (.cells #[.string ⟨#[]⟩, .int .i64 0, .int .u64 0, .int .i64 0, .int .i64 0, .int .i64 0, .int .i64 0, .bool false] 40))) i u hu
      obtain ⟨c0, c1, c2, c3, c4, c5, c6, c7⟩ := hU
      cases he : eqs u.name n
      · rw [he, if_neg (by simp)] at hall
        have he2 : (u.name.toList == n.toList) = false := he
        go_wp2_with fail
        exact ⟨⟨i + 1, by omega, by simp, trivial, hall⟩, by simp [Go.RowKit.intOf]; omega⟩
      · rw [he, if_pos rfl] at hall
        have he2 : (u.name.toList == n.toList) = true := he
        have hall := hall.out
        subst hall
        go_wp2_with fail
        refine bodyPost_ret (v := .tuple #[u.v, .bool true]) (by simp [results, Try.results16, go_sem, World.cell?_alloc_at]) rfl ⟨rfl, alloc_below _ _⟩
    · obtain rfl : r = Option.none := by
        refine hall.out.trans ?_
        rw [List.drop_eq_nil_of_le (by omega)]
        rfl
      go_wp2_with fail
      refine bodyPost_ret (v := .tuple #[Usr.none.v, .bool false]) (by simp [results, Try.results16, go_sem, World.cell?_alloc_at, Usr.none]) rfl ⟨rfl, alloc_below _ _⟩
end Go.Proofs.Ytagpjihhnnmhnaa
