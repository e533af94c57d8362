/-
  A NODE, CHECKED: package node as it landed, and the document's own. Written by mk_nchk.py.
-/
import Derived.Test.YtenndocmpjmgiaaDoorNodeRing
import Derived.Test.YtenndocmpjmgiaaDoorLPathFns
import Derived.Test.YtenndocmpjmgiaaDoorLAclCheck
import Derived.Test.YtenndocmpjmgiaaDoorLAclRefCheck
import Derived.Test.YtenndocmpjmgiaaDoorWhole
namespace Go.Proofs.YtenndocmpjmgiaaDoor
open Go.RowKit
set_option linter.unusedSimpArgs false
set_option linter.unusedVariables false

abbrev Nod.rg (n : Nod) : Rg := ⟨n.r1, n.r2, n.r3, n.gates⟩
def rz (n : Nod) : Bool := n.r1 == 0 && (n.r2 == 0 && (n.r3 == 0 && n.gates == 0))
/-- What is wrong with a directory, with a segment, with a node. -/
def dirC (n : Nod) : Int := if rz n = true ∧ n.words.length = 0 then 0 else 11
def segC (n : Nod) : Int := if eqs n.path slashS = true then 3 else if chkR n.rg ≠ 0 then chkR n.rg else if 16 < n.words.length then 4 else 0
def nodC (n : Nod) : Int := if checkOf n.path ≠ 0 then checkOf n.path else if chkL n.label ≠ 0 then chkL n.label else if chkL n.by_ ≠ 0 then chkL n.by_ else if chkA n.acl ≠ 0 then chkA n.acl else if n.dir = true then dirC n else segC n
theorem eqs_slash (u : ByteArray) : eqs u slashS = (u.toList == [47]) := by
  unfold eqs
  rw [show slashS.toList = [47] from by simp [slashS]]
theorem run_neq_zero (n : Nod) (w : World) : (binOp .neq 26 (.agg #[.int .i64 n.r1, .int .i64 n.r2, .int .i64 n.r3, .int .i64 n.gates]) (.agg #[.int .i64 0, .int .i64 0, .int .i64 0, .int .i64 0])).run Tryd.prog w = .ok (.bool (!rz n)) w := by
  have e : rz n = (n.r1 == 0 && (n.r2 == 0 && (n.r3 == 0 && n.gates == 0))) := rfl
  rw [e]
  go_simp
  repeat' split
  all_goals simp_all
/-- A node boxed, its rows, what paths lean on. -/
structure NH (w W : World) (n : Nod) (aa : Option Addr) (ca : Nat) (wa : Option Addr) (cw : Nat) : Prop where
  box : NBox W w.heap.size n aa ca wa cw
  gr : GAt W aa n.acl
  mv : MaxV W
  bl : Below w.heap.size w W
  sz : w.heap.size + 1 ≤ W.heap.size
section
variable {w W W' : World} {n : Nod} {aa : Option Addr} {ca : Nat} {wa : Option Addr} {cw : Nat}
theorem NH.then (h : NH w W n aa ca wa cw) (b : Below W.heap.size W W') : NH w W' n aa ca wa cw := ⟨h.box.keep (b.mono h.sz), h.gr.below b, h.mv.below b, Below.then h.bl b, Nat.le_trans h.sz b.size⟩
theorem nh_start (hg : GAt w aa n.acl) (hm : MaxV w) : NH w (w.alloc (.cells (ncells n aa ca wa cw) 29)) n aa ca wa cw := ⟨nbox_alloc _ _ _ _ _ _ _, hg.below (alloc_below _ _), hm.below (alloc_below _ _), alloc_below _ _, by rw [World.size_alloc]; exact Nat.le_refl _⟩
end
theorem NBox.row {W : World} {g : Nat} {n : Nod} {aa : Option Addr} {ca : Nat} {wa : Option Addr} {cw : Nat} (h : NBox W g n aa ca wa cw) : W.rangeAt g 0 [.string n.path, .bool n.dir, .int .i64 n.label.s, .int .i64 n.label.c, .int .i64 n.label.i, .int .i64 n.label.k, .slice aa n.acl.length ca, .int .i64 n.r1, .int .i64 n.r2, .int .i64 n.r3, .int .i64 n.gates, .slice wa n.words.length cw, .int .i64 n.by_.s, .int .i64 n.by_.c, .int .i64 n.by_.i, .int .i64 n.by_.k] := fun j v hv => by
  obtain ⟨h0, h1, h2, h3, h4, h5, h6, h7, h8, h9, h10, h11, h12, h13, h14, h15⟩ := h
  rw [Nat.zero_add]
  have hj := (List.getElem?_eq_some_iff.1 hv).1
  simp only [List.length_cons, List.length_nil] at hj
  match j, hj with
  | 0, _ => exact h0.trans hv
  | 1, _ => exact h1.trans hv
  | 2, _ => exact h2.trans hv
  | 3, _ => exact h3.trans hv
  | 4, _ => exact h4.trans hv
  | 5, _ => exact h5.trans hv
  | 6, _ => exact h6.trans hv
  | 7, _ => exact h7.trans hv
  | 8, _ => exact h8.trans hv
  | 9, _ => exact h9.trans hv
  | 10, _ => exact h10.trans hv
  | 11, _ => exact h11.trans hv
  | 12, _ => exact h12.trans hv
  | 13, _ => exact h13.trans hv
  | 14, _ => exact h14.trans hv
  | 15, _ => exact h15.trans hv
set_option maxHeartbeats 1000000 in
theorem checkDir_any (n : Nod) (aa : Option Addr) (ca : Nat) (wa : Option Addr) (cw : Nat) (hn : n.words.length ≤ 1000000) (w : World) :
    Calls Tryd.prog 15 #[n.v aa ca wa cw] w fun e w' => e = .returned (.int .i64 (dirC n)) ∧ Below w.heap.size w w' := by
  have hB := alloc_below w (.cells (ncells n aa ca wa cw) 29)
  unfold ncells at hB
  have kz := run_neq_zero n
  cases hz : rz n
  · have e : dirC n = 11 := by unfold dirC; rw [if_neg (fun q => by rw [hz] at q; exact absurd q.1 (by decide))]
    rw [e, ]
    rw [hz] at kz
    clear e
    go_enter Tryd.func15, Tryd.ntmps15
    go_wp2_with fail
    go_ret
    exact ⟨rfl, hB⟩
  · rw [hz] at kz
    by_cases hw : n.words.length = 0
    · have e : dirC n = 0 := by unfold dirC; rw [if_pos ⟨hz, hw⟩]
      rw [e]
      have i1 : ¬ (0 : Int) < (n.words.length : Int) := by omega
      clear e hw
      go_enter Tryd.func15, Tryd.ntmps15
      go_wp2_with fail
      go_ret
      exact ⟨rfl, hB⟩
    · have e : dirC n = 11 := by unfold dirC; rw [if_neg (fun q => hw q.2)]
      rw [e]
      have i1 : (0 : Int) < (n.words.length : Int) := by omega
      clear e
      go_enter Tryd.func15, Tryd.ntmps15
      go_wp2_with fail
      go_ret
      exact ⟨rfl, hB⟩
set_option maxHeartbeats 1000000 in
theorem checkSegment_any (n : Nod) (aa : Option Addr) (ca : Nat) (wa : Option Addr) (cw : Nat) (hn : n.words.length ≤ 1000000) (w : World) (hg : GAt w aa n.acl) (hm : MaxV w) :
    Calls Tryd.prog 16 #[n.v aa ca wa cw] w fun e w' => e = .returned (.int .i64 (segC n)) ∧ Below w.heap.size w w' := by
  have h := nh_start (ca := ca) (wa := wa) (cw := cw) hg hm
  unfold ncells at h
  have kr := rgcheck_any n.rg
  obtain ⟨sc, hsc⟩ : ∃ sc, segC n = sc := ⟨_, rfl⟩
  rw [hsc]
  replace hsc : Aside (segC n = sc) := hsc
  have s0 : eqs n.path slashS = true → sc = 3 := fun q => by rw [← hsc.out, segC, if_pos q]
  have s1 : ¬ eqs n.path slashS = true → chkR n.rg ≠ 0 → sc = chkR n.rg := fun q q2 => by rw [← hsc.out, segC, if_neg q, if_pos q2]
  have s2 : ¬ eqs n.path slashS = true → ¬ chkR n.rg ≠ 0 → 16 < n.words.length → sc = 4 := fun q q2 q3 => by rw [← hsc.out, segC, if_neg q, if_neg q2, if_pos q3]
  have s3 : ¬ eqs n.path slashS = true → ¬ chkR n.rg ≠ 0 → ¬ 16 < n.words.length → sc = 0 := fun q q2 q3 => by rw [← hsc.out, segC, if_neg q, if_neg q2, if_neg q3]
  clear hsc
  generalize chkR n.rg = cr at *
  by_cases h0 : eqs n.path slashS = true
  · obtain rfl := s0 h0
    have f0 : (n.path.toList == [47]) = true := (eqs_slash n.path).symm.trans h0
    have hb := h.bl
    clear s0 s1 s2 s3 kr h
    go_enter Tryd.func16, Tryd.ntmps16
    go_wp2_with fail
    go_ret
    exact ⟨rfl, hb⟩
  · have f0 : (n.path.toList == [47]) = false := by rw [← eqs_slash]; exact Bool.eq_false_iff.2 h0
    replace s1 := s1 h0
    replace s2 := s2 h0
    replace s3 := s3 h0
    clear s0 h0
    go_enter Tryd.func16, Tryd.ntmps16
    go_wp2_with fail
    generalize w.alloc (.cells #[.string n.path, .bool n.dir, .int .i64 n.label.s, .int .i64 n.label.c, .int .i64 n.label.i, .int .i64 n.label.k, .slice aa n.acl.length ca, .int .i64 n.r1, .int .i64 n.r2, .int .i64 n.r3, .int .i64 n.gates, .slice wa n.words.length cw, .int .i64 n.by_.s, .int .i64 n.by_.c, .int .i64 n.by_.i, .int .i64 n.by_.k] 29) = W at *
    refine (kr W).mono ?_
    rintro e W1 ⟨rfl, hB1⟩
    have h1 := h.then hB1
    have hS := h1.box
    have hb := h1.bl
    clear h h1 hB1 kr
    by_cases h2 : cr = 0
    · replace s2 := s2 (by omega)
      replace s3 := s3 (by omega)
      subst h2
      by_cases h3 : 16 < n.words.length
      · obtain rfl := s2 h3
        have i1 : (16 : Int) < (n.words.length : Int) := by omega
        clear s1 s2 s3 h3
        go_wp2_with fail
        go_ret
        exact ⟨rfl, hb⟩
      · obtain rfl := s3 h3
        have i1 : ¬ (16 : Int) < (n.words.length : Int) := by omega
        clear s1 s2 s3 h3
        go_wp2_with fail
        go_ret
        exact ⟨rfl, hb⟩
    · obtain rfl := s1 h2
      have i1 : (sc != 0) = true := by simp [h2]
      clear s1 s2 s3
      go_wp2_with fail
      go_ret
      exact ⟨rfl, hb⟩
set_option maxRecDepth 8000 in
set_option maxHeartbeats 4000000 in
theorem ncheck_any (n : Nod) (aa : Option Addr) (ca : Nat) (wa : Option Addr) (cw : Nat) (hp : n.path.size ≤ 100000) (hn : n.words.length ≤ 1000000) (w : World) (hg : GAt w aa n.acl) (hm : MaxV w) :
    Calls Tryd.prog 7 #[n.v aa ca wa cw] w fun e w' => e = .returned (.int .i64 (nodC n)) ∧ Below w.heap.size w w' := by
  have h := nh_start (ca := ca) (wa := wa) (cw := cw) hg hm
  unfold ncells at h
  have kp := fun W (q : MaxV W) => pcheck_any n.path hp W q
  have kl := lcheck_any n.label
  have kb := lcheck_any n.by_
  have ka := fun W (q : GAt W aa n.acl) => acheck_any W aa ca n.acl q
  have kd := fun W => checkDir_any n aa ca wa cw hn W
  have ks := fun W (q : GAt W aa n.acl) (q2 : MaxV W) => checkSegment_any n aa ca wa cw hn W q q2
  have hi : (Tryd.prog.info? 29).map (·.size) = some 16 := by kernel_rfl
  obtain ⟨r, hr⟩ : ∃ r, nodC n = r := ⟨_, rfl⟩
  rw [hr]
  replace hr : Aside (nodC n = r) := hr
  unfold nodC at hr
  generalize checkOf n.path = cp at *
  generalize chkL n.label = cl at *
  generalize chkL n.by_ = cb at *
  generalize chkA n.acl = cA at *
  generalize dirC n = cd at *
  generalize segC n = cs at *
  go_enter Tryd.func7, Tryd.ntmps7
  go_wp2_with fail
  generalize w.alloc (.cells #[.string n.path, .bool n.dir, .int .i64 n.label.s, .int .i64 n.label.c, .int .i64 n.label.i, .int .i64 n.label.k, .slice aa n.acl.length ca, .int .i64 n.r1, .int .i64 n.r2, .int .i64 n.r3, .int .i64 n.gates, .slice wa n.words.length cw, .int .i64 n.by_.s, .int .i64 n.by_.c, .int .i64 n.by_.i, .int .i64 n.by_.k] 29) = W at *
  refine (kp W h.mv).mono ?_
  rintro e W1 ⟨rfl, hB1⟩
  replace h := h.then hB1
  have hS := h.box
  clear hB1 kp
  by_cases h0 : cp = 0
  rotate_left
  · obtain rfl : cp = r := by rw [← hr.out, if_pos h0]
    have i1 : (cp != 0) = true := by simp [h0]
    clear hr
    go_wp2_with fail
    go_ret
    exact ⟨rfl, h.bl⟩
  subst h0
  go_wp2_with fail
  refine (kl W1).mono ?_
  rintro e W2 ⟨rfl, hB1⟩
  replace h := h.then hB1
  replace hS := h.box
  clear hB1 kl
  by_cases h0 : cl = 0
  rotate_left
  · obtain rfl : cl = r := by rw [← hr.out, if_neg (by decide), if_pos h0]
    have i1 : (cl != 0) = true := by simp [h0]
    clear hr
    go_wp2_with fail
    go_ret
    exact ⟨rfl, h.bl⟩
  subst h0
  go_wp2_with fail
  refine (kb W2).mono ?_
  rintro e W3 ⟨rfl, hB1⟩
  replace h := h.then hB1
  replace hS := h.box
  clear hB1 kb
  by_cases h0 : cb = 0
  rotate_left
  · obtain rfl : cb = r := by rw [← hr.out, if_neg (by decide), if_neg (by decide), if_pos h0]
    have i1 : (cb != 0) = true := by simp [h0]
    clear hr
    go_wp2_with fail
    go_ret
    exact ⟨rfl, h.bl⟩
  subst h0
  go_wp2_with fail
  refine (ka W3 h.gr).mono ?_
  rintro e W4 ⟨rfl, hB1⟩
  replace h := h.then hB1
  replace hS := h.box
  clear hB1 ka
  by_cases h0 : cA = 0
  rotate_left
  · obtain rfl : cA = r := by rw [← hr.out, if_neg (by decide), if_neg (by decide), if_neg (by decide), if_pos h0]
    have i1 : (cA != 0) = true := by simp [h0]
    clear hr
    go_wp2_with fail
    go_ret
    exact ⟨rfl, h.bl⟩
  subst h0
  have hrow := NBox.row hS
  cases hd : n.dir
  · obtain rfl : cs = r := by rw [← hr.out, hd]; simp
    rw [hd] at hrow
    clear hr
    have kv : ∀ W, GAt W aa n.acl → MaxV W → Calls Tryd.prog 16 #[.agg [.string n.path, .bool false, .int .i64 n.label.s, .int .i64 n.label.c, .int .i64 n.label.i, .int .i64 n.label.k, .slice aa n.acl.length ca, .int .i64 n.r1, .int .i64 n.r2, .int .i64 n.r3, .int .i64 n.gates, .slice wa n.words.length cw, .int .i64 n.by_.s, .int .i64 n.by_.c, .int .i64 n.by_.i, .int .i64 n.by_.k].toArray] W (fun e w' => e = .returned (.int .i64 cs) ∧ Below W.heap.size W w') := fun W q q2 => by
      have := ks W q q2
      simp only [Nod.v, hd] at this
      exact this
    clear kd ks
    go_wp2_with (first | (refine wpList_load_row rfl _ rfl w.heap.size rfl [.string n.path, .bool false, .int .i64 n.label.s, .int .i64 n.label.c, .int .i64 n.label.i, .int .i64 n.label.k, .slice aa n.acl.length ca, .int .i64 n.r1, .int .i64 n.r2, .int .i64 n.r3, .int .i64 n.gates, .slice wa n.words.length cw, .int .i64 n.by_.s, .int .i64 n.by_.c, .int .i64 n.by_.i, .int .i64 n.by_.k] hrow Tryd.underlying29 rfl hi ?_) | fail)
    refine (kv W4 h.gr h.mv).mono ?_
    rintro e W5 ⟨rfl, hB1⟩
    have hb := Below.then h.bl hB1
    go_wp2_with fail
    go_ret
    exact ⟨rfl, hb⟩
  · obtain rfl : cd = r := by rw [← hr.out, hd]; simp
    rw [hd] at hrow
    clear hr
    have kv : ∀ W, Calls Tryd.prog 15 #[.agg [.string n.path, .bool true, .int .i64 n.label.s, .int .i64 n.label.c, .int .i64 n.label.i, .int .i64 n.label.k, .slice aa n.acl.length ca, .int .i64 n.r1, .int .i64 n.r2, .int .i64 n.r3, .int .i64 n.gates, .slice wa n.words.length cw, .int .i64 n.by_.s, .int .i64 n.by_.c, .int .i64 n.by_.i, .int .i64 n.by_.k].toArray] W (fun e w' => e = .returned (.int .i64 cd) ∧ Below W.heap.size W w') := fun W => by
      have := kd W
      simp only [Nod.v, hd] at this
      exact this
    clear kd ks
    go_wp2_with (first | (refine wpList_load_row rfl _ rfl w.heap.size rfl [.string n.path, .bool true, .int .i64 n.label.s, .int .i64 n.label.c, .int .i64 n.label.i, .int .i64 n.label.k, .slice aa n.acl.length ca, .int .i64 n.r1, .int .i64 n.r2, .int .i64 n.r3, .int .i64 n.gates, .slice wa n.words.length cw, .int .i64 n.by_.s, .int .i64 n.by_.c, .int .i64 n.by_.i, .int .i64 n.by_.k] hrow Tryd.underlying29 rfl hi ?_) | fail)
    refine (kv W4).mono ?_
    rintro e W5 ⟨rfl, hB1⟩
    have hb := Below.then h.bl hB1
    go_wp2_with fail
    go_ret
    exact ⟨rfl, hb⟩
set_option maxRecDepth 8000 in
set_option maxHeartbeats 4000000 in
theorem rncheck_any (n : Nod) (aa : Option Addr) (ca : Nat) (wa : Option Addr) (cw : Nat) (hp : n.path.size ≤ 100000) (hn : n.words.length ≤ 1000000) (hu : ∀ g ∈ n.acl, g.u.size ≤ 9223372036854775807) (w : World) (hg : GAt w aa n.acl) (hm : MaxV w) :
    Calls Tryd.prog 8 #[n.v aa ca wa cw] w fun e w' => e = .returned (.int .i64 (nodC n)) ∧ Below w.heap.size w w' := by
  have h := nh_start (ca := ca) (wa := wa) (cw := cw) hg hm
  unfold ncells at h
  have kp := rpcheck_any n.path hp
  have kl := rlcheck_any n.label
  have kb := rlcheck_any n.by_
  have ka := fun W (q : GAt W aa n.acl) => racheck_any W aa ca n.acl q hu
  have kr := rrgcheck_any n.rg
  have kz := run_neq_zero n
  obtain ⟨r, hr⟩ : ∃ r, nodC n = r := ⟨_, rfl⟩
  rw [hr]
  replace hr : Aside (nodC n = r) := hr
  unfold nodC dirC segC at hr
  generalize checkOf n.path = cp at *
  generalize chkL n.label = cl at *
  generalize chkL n.by_ = cb at *
  generalize chkA n.acl = cA at *
  generalize chkR n.rg = cr at *
  go_enter Tryd.func8, Tryd.ntmps8
  go_wp2_with fail
  generalize w.alloc (.cells #[.string n.path, .bool n.dir, .int .i64 n.label.s, .int .i64 n.label.c, .int .i64 n.label.i, .int .i64 n.label.k, .slice aa n.acl.length ca, .int .i64 n.r1, .int .i64 n.r2, .int .i64 n.r3, .int .i64 n.gates, .slice wa n.words.length cw, .int .i64 n.by_.s, .int .i64 n.by_.c, .int .i64 n.by_.i, .int .i64 n.by_.k] 29) = W at *
  refine (kp W).mono ?_
  rintro e W1 ⟨rfl, hB1⟩
  replace h := h.then hB1
  have hS := h.box
  clear hB1 kp
  by_cases h0 : cp = 0
  rotate_left
  · obtain rfl : cp = r := by rw [← hr.out, if_pos h0]
    have i1 : (cp != 0) = true := by simp [h0]
    clear hr
    have i2 : (cp == 0) = false := by simp [h0]
    go_wp2_with fail
    go_ret
    exact ⟨rfl, h.bl⟩
  subst h0
  go_wp2_with fail
  refine (kl W1).mono ?_
  rintro e W2 ⟨rfl, hB1⟩
  replace h := h.then hB1
  replace hS := h.box
  clear hB1 kl
  by_cases h0 : cl = 0
  rotate_left
  · obtain rfl : cl = r := by rw [← hr.out, if_neg (by decide), if_pos h0]
    have i1 : (cl != 0) = true := by simp [h0]
    clear hr
    have i2 : (cl == 0) = false := by simp [h0]
    go_wp2_with fail
    go_ret
    exact ⟨rfl, h.bl⟩
  subst h0
  go_wp2_with fail
  refine (kb W2).mono ?_
  rintro e W3 ⟨rfl, hB1⟩
  replace h := h.then hB1
  replace hS := h.box
  clear hB1 kb
  by_cases h0 : cb = 0
  rotate_left
  · obtain rfl : cb = r := by rw [← hr.out, if_neg (by decide), if_neg (by decide), if_pos h0]
    have i1 : (cb != 0) = true := by simp [h0]
    clear hr
    have i2 : (cb == 0) = false := by simp [h0]
    go_wp2_with fail
    go_ret
    exact ⟨rfl, h.bl⟩
  subst h0
  go_wp2_with fail
  refine (ka W3 h.gr).mono ?_
  rintro e W4 ⟨rfl, hB1⟩
  replace h := h.then hB1
  replace hS := h.box
  clear hB1 ka
  by_cases h0 : cA = 0
  rotate_left
  · obtain rfl : cA = r := by rw [← hr.out, if_neg (by decide), if_neg (by decide), if_neg (by decide), if_pos h0]
    have i1 : (cA != 0) = true := by simp [h0]
    clear hr
    have i2 : (cA == 0) = false := by simp [h0]
    go_wp2_with fail
    go_ret
    exact ⟨rfl, h.bl⟩
  subst h0
  cases hd : n.dir
  · skip
    clear kz
    by_cases h0 : eqs n.path slashS = true
    · obtain rfl : r = 3 := by rw [← hr.out, hd]; simp [h0]
      clear hr
      have f0 : (n.path.toList == [47]) = true := (eqs_slash n.path).symm.trans h0
      go_wp2_with fail
      go_ret
      exact ⟨rfl, h.bl⟩
    · have f0 : (n.path.toList == [47]) = false := by rw [← eqs_slash]; exact Bool.eq_false_iff.2 h0
      go_wp2_with fail
      refine (kr W4).mono ?_
      rintro e W5 ⟨rfl, hB1⟩
      replace h := h.then hB1
      replace hS := h.box
      clear hB1
      by_cases h2 : cr = 0
      · subst h2
        clear kr
        by_cases h3 : 16 < n.words.length
        · obtain rfl : r = 4 := by rw [← hr.out, hd]; simp [h0, h3]
          clear hr
          have i1 : (16 : Int) < (n.words.length : Int) := by omega
          go_wp2_with fail
          go_ret
          exact ⟨rfl, h.bl⟩
        · obtain rfl : r = 0 := by rw [← hr.out, hd]; simp [h0, h3]
          clear hr
          have i1 : ¬ (16 : Int) < (n.words.length : Int) := by omega
          go_wp2_with fail
          go_ret
          exact ⟨rfl, h.bl⟩
      · obtain rfl : cr = r := by rw [← hr.out, hd]; simp [h0, h2]
        clear hr
        have i1 : (cr != 0) = true := by simp [h2]
        go_wp2_with fail
        refine (kr W5).mono ?_
        rintro e W6 ⟨rfl, hB1⟩
        replace h := h.then hB1
        clear hS hB1
        go_wp2_with fail
        go_ret
        exact ⟨rfl, h.bl⟩
  · skip
    clear kr
    have hpath : (n.path.toList == [47]) = true ∨ (n.path.toList == [47]) = false := by cases (n.path.toList == [47]) <;> simp
    cases hz : rz n
    · obtain rfl : r = 11 := by rw [← hr.out, hd]; simp [hz]
      rw [hz] at kz
      clear hr
      rcases hpath with f0 | f0
      all_goals (
        go_wp2_with fail
        go_ret
        exact ⟨rfl, h.bl⟩)
    · rw [hz] at kz
      by_cases hw : n.words.length = 0
      · obtain rfl : r = 0 := by rw [← hr.out, hd]; simp [hz, hw]
        clear hr
        have i1 : ¬ (0 : Int) < (n.words.length : Int) := by omega
        rcases hpath with f0 | f0
        all_goals (
          go_wp2_with fail
          go_ret
          exact ⟨rfl, h.bl⟩)
      · obtain rfl : r = 11 := by rw [← hr.out, hd]; simp [hz, hw]
        clear hr
        have i1 : (0 : Int) < (n.words.length : Int) := by omega
        rcases hpath with f0 | f0
        all_goals (
          go_wp2_with fail
          go_ret
          exact ⟨rfl, h.bl⟩)
end Go.Proofs.YtenndocmpjmgiaaDoor
