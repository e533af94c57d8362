/-
  PROGRAMS AND BEGINNINGS AS THE LAWS OF CHAPTER 16 ARE HANDED THEM, in plain words.
-/
import Derived.Test.YtinibccphecdfaaPt4
namespace Go.Proofs.Ytinibccphecdfaa
open Go.RowKit
set_option maxRecDepth 8000
set_option linter.unusedSimpArgs false
set_option linter.unusedVariables false

structure WdX where
  k : Int
  i : Ins
  p : Ptr
  w : Int
def wd8 (x : WdX) : List Value := [.int .i64 x.k, .int .i64 x.i.o, .int .i64 x.i.p, .int .i64 x.i.n, .int .i64 x.p.s, .int .i64 x.p.f, .int .i64 x.p.r, .int .i64 x.w]
theorem wd8_len (x : WdX) : (wd8 x).length = 8 := rfl
theorem wd8_one (x : WdX) : ∀ u ∈ wd8 x, u.oneCell' = true := fun u hu => by
  simp [wd8] at hu
  rcases hu with rfl | rfl | rfl | rfl | rfl | rfl | rfl | rfl <;> rfl
def wdI (x : WdX) : Ins := ⟨(goodI x.i).o, (goodI x.i).p, x.i.n % 9 - 2⟩
def wdP (x : WdX) : Ptr := ⟨x.p.s % 5, x.p.f % 6, x.p.r % 8⟩
def wdW (x : WdX) : Int := if x.k % 4 = 0 ∨ x.k % 4 = 1 then insW (wdI x) else if x.k % 4 = 2 then ptrW (wdP x) else x.w
theorem wdW_fit {x : WdX} (h : fit64 x.w) : fit64 (wdW x) := by
  unfold wdW
  split
  · exact insW_fit _
  · split
    · exact ptrW_fit _
    · exact h
/-- A piece: a segment as it is handed in. -/
structure Pc where
  no : Bool
  md : Int
  rg : Rg
  ws : List WdX
structure PP where
  p : Pc
  wa : Option Addr
  wc : Nat
def PP.cs (x : PP) : List Value := [.bool x.p.no, .int .i64 x.p.md, .int .i64 x.p.rg.a, .int .i64 x.p.rg.b, .int .i64 x.p.rg.c, .int .i64 x.p.rg.g, .slice x.wa x.p.ws.length x.wc]
theorem pp_len (x : PP) : x.cs.length = 7 := rfl
structure PP.At (W : World) (x : PP) : Prop where
  row : RowAt 8 wd8 W x.wa x.p.ws
  fit : ∀ q ∈ x.p.ws, fit64 q.w
  len : x.p.ws.length ≤ 9223372036854775807
theorem PP.At.below {W W' : World} {x : PP} (h : x.At W) (b : Below W.heap.size W W') : x.At W' := ⟨h.row.below wd8_len b, h.fit, h.len⟩
structure RowP (W : World) (a : Option Addr) (l : List PP) : Prop where
  row : RowAt 7 PP.cs W a l
  at_ : ∀ x ∈ l, x.At W
  len : l.length ≤ 9223372036854775807
theorem RowP.below {W W' : World} {a : Option Addr} {l : List PP} (h : RowP W a l) (b : Below W.heap.size W W') : RowP W' a l := ⟨h.row.below pp_len b, fun x hx => (h.at_ x hx).below b, h.len⟩
def pcG (p : Pc) : Sg := ⟨!p.no, (p.ws.take 16).map wdW, p.md % 8, goodR p.rg⟩
def memPc (l : List PP) : List Sg := (l.take 5).map fun x => pcG x.p
theorem pcG_ok {W : World} {x : PP} (h : x.At W) : (pcG x.p).Ok := by
  refine ⟨fun _ => goodR_ok _, fun y hy => ?_, by show ((x.p.ws.take 16).map wdW).length ≤ 1000; rw [List.length_map, List.length_take]; omega⟩
  obtain ⟨q, hq, rfl⟩ := List.mem_map.1 hy
  exact wdW_fit (h.fit q (List.mem_of_mem_take hq))
theorem memPc_ok {W : World} {a : Option Addr} {l : List PP} (h : RowP W a l) : ∀ g ∈ memPc l, g.Ok := fun g hg => by
  obtain ⟨q, hq, rfl⟩ := List.mem_map.1 hg
  exact pcG_ok (h.at_ q (List.mem_of_mem_take hq))
/-- A beginning: its cells are a processor's but the last. -/
def bgCs (c : Cp) (v : Value) : List Value := [.int .i64 c.seg, .int .i64 c.off, .int .i64 c.ring, .int .i64 c.a] ++ (c.ps.flatMap ptr3 ++ [v])
def bgP (p : Ptr) : Ptr := ⟨p.s % 5, p.f % 6, p.r % 8⟩
def bgF (p : Fr) : Fr := ⟨p.s % 5, p.f % 6, p.r % 8⟩
def begC (c : Cp) : Cp := ⟨c.seg % 5, c.off % 5, c.ring % 8, c.a, c.ps.map bgP, (c.st.take 8).map bgF, false⟩
structure BegX (W : World) (c : Cp) (a : Option Addr) : Prop where
  ps : c.ps.length = 4
  fit : fit64 c.a
  row : RowAt 3 frc W a c.st
  len : c.st.length ≤ 9223372036854775807
theorem BegX.below {W W' : World} {c : Cp} {a : Option Addr} (h : BegX W c a) (b : Below W.heap.size W W') : BegX W' c a := ⟨h.ps, h.fit, h.row.below frc_len b, h.len⟩
theorem begC_ok {W : World} {c : Cp} {a : Option Addr} (h : BegX W c a) : (begC c).Ok := by
  refine ⟨by show (c.ps.map bgP).length = 4; rw [List.length_map, h.ps], fun p hp => ?_, by show 0 ≤ c.ring % 8 ∧ c.ring % 8 ≤ 7; omega, h.fit, by show ((c.st.take 8).map bgF).length ≤ 8; rw [List.length_map, List.length_take]; omega, fun f hf => ?_⟩
  · obtain ⟨q, hq, rfl⟩ := List.mem_map.1 hp
    simp only [bgP]
    omega
  · obtain ⟨q, hq, rfl⟩ := List.mem_map.1 hf
    simp only [bgF]
    omega
end Go.Proofs.Ytinibccphecdfaa
