/-
  TREES THAT ARE GROWN, in plain words: nodes put upon the first ones, one behind the other; what they come to is a tree.
-/
import Derived.Test.YtajondkpdgiolaaTreeAcl
namespace Go.Proofs.Ytajondkpdgiolaa
open Go.RowKit
set_option maxRecDepth 8000
set_option linter.unusedSimpArgs false
set_option linter.unusedVariables false

/-- A way to make a node. -/
structure Mk where
  path : List Int
  dir : Bool
  up : Lab
  acl : List Gr
  rings : Rg
  words : List Int
  by_ : Lab
def mkPath (m : Mk) : ByteArray := pathB (namesOf m.path)
def mkN (d : Nod) (m : Mk) : Nod :=
  if m.dir = true then ⟨mkPath m, true, joinL d.label (goodL m.up), aclOf m.acl, 0, 0, 0, 0, [], goodL m.by_⟩
  else ⟨mkPath m, false, d.label, aclOf m.acl, (goodR m.rings).a, (goodR m.rings).b, (goodR m.rings).c, (goodR m.rings).g, m.words.take 16, goodL m.by_⟩
def growStep (l : List Nod) (m : Mk) : List Nod :=
  if eqs (mkPath m) slashS = true then l else match findN l (parentOf (mkPath m)) with
  | none => l
  | some d => if d.dir = true ∧ findN l (mkPath m) = none then putN l (mkN d m) else l
def growN (ts : List Lab) (ms : List Mk) : List Nod := (ms.take 14).foldl growStep (firstN ((ts.take 4).map goodL))
theorem mkN_path (d : Nod) (m : Mk) : (mkN d m).path = mkPath m := by unfold mkN; split <;> rfl
theorem mkPath_names (m : Mk) : Names (namesOf m.path) := namesOf_names m.path
theorem rov_join {a b : Lab} (ha : GL a) (hb : GL b) : rov (joinL a b) a = true ∧ GL (joinL a b) := by
  obtain ⟨x, rfl, hx⟩ := ha.nl
  obtain ⟨y, rfl, hy⟩ := hb.nl
  rw [join_lab hx hy]
  refine ⟨?_, lab_GL (join_ok hx hy)⟩
  rw [rov_ov (join_ok hx hy) hx, ov_iff (join_ok hx hy) hx]
  show (x.join y).join x = x.join y
  rw [join_comm (x.join y) x, ← join_assoc, join_self]
theorem rov_self {a : Lab} (ha : GL a) : rov a a = true := by
  obtain ⟨x, rfl, hx⟩ := ha.nl
  rw [rov_ov hx hx, ov_iff hx hx]
  exact over_refl x
theorem mkN_ok {d : Nod} (hd : nodC d = 0) (m : Mk) (hs : mkPath m ≠ slashS) : nodC (mkN d m) = 0 ∧ rov (mkN d m).label d.label = true ∧ ((mkN d m).dir = false → (mkN d m).label = d.label) := by
  obtain ⟨_, hg, _⟩ := nodC_zero.1 hd
  have hp : checkOf (mkPath m) = 0 := check_names (mkPath_names m)
  unfold mkN
  cases m.dir
  · simp only [Bool.false_eq_true, if_false]
    refine ⟨nodC_zero.2 ⟨hp, hg, good_GL _, aclOf_ok _, fun h => (by cases h), fun _ => ⟨hs, goodR_ok m.rings, ?_⟩⟩, rov_self hg, fun _ => by first | rfl | trivial⟩
    show (m.words.take 16).length ≤ 16
    rw [List.length_take]
    omega
  · simp only [if_true]
    obtain ⟨h1, h2⟩ := rov_join hg (good_GL m.up)
    exact ⟨nodC_zero.2 ⟨hp, h2, good_GL _, aclOf_ok _, fun _ => ⟨rfl, rfl⟩, fun h => (by cases h)⟩, h1, fun h => (by cases h)⟩
theorem step_tree {l : List Nod} (h : Tree l) (m : Mk) : Tree (growStep l m) := by
  unfold growStep
  by_cases hs : eqs (mkPath m) slashS = true
  · rw [if_pos hs]
    exact h
  · rw [if_neg hs]
    have hs' : mkPath m ≠ slashS := fun e => hs (eqs_iff.2 e)
    cases hf : findN l (parentOf (mkPath m)) with
    | none => exact h
    | some d =>
      show Tree (if d.dir = true ∧ findN l (mkPath m) = none then putN l (mkN d m) else l)
      by_cases hc : d.dir = true ∧ findN l (mkPath m) = none
      · rw [if_pos hc]
        obtain ⟨hd, hp⟩ := find_some hf
        obtain ⟨k1, k2, k3⟩ := mkN_ok (h.ok d hd) m hs'
        refine h.put (d := d) k1 (by rw [mkN_path]; exact hs') (fun x hx => ?_) hd (by rw [mkN_path]; exact hp) hc.1 k2 k3
        rw [mkN_path]
        exact find_none hc.2 x hx
      · rw [if_neg hc]
        exact h
theorem fold_tree : ∀ (ms : List Mk) {l : List Nod}, Tree l → Tree (ms.foldl growStep l)
  | [], _, h => h
  | m :: r, _, h => fold_tree r (step_tree h m)
theorem grow_tree (ts : List Lab) (ms : List Mk) : Tree (growN ts ms) := by
  refine fold_tree _ (first_tree (fun t ht => ?_) ?_)
  · obtain ⟨u, _, rfl⟩ := List.mem_map.1 ht
    exact good_GL u
  · rw [List.length_map, List.length_take]
    omega
/-! The names that grown nodes have. -/
def OkName (n : ByteArray) : Prop := (∃ x, n = nameOf x) ∨ ∃ k, k < 10 ∧ n = nmK k
def OkPath (p : ByteArray) : Prop := ∃ ns, p = pathB ns ∧ Names ns ∧ ∀ n ∈ ns, OkName n
theorem ok_slash : OkPath slashS := ⟨[], pathB_nil.symm, ⟨by simp, fun n hn => by cases hn⟩, fun n hn => by cases hn⟩
theorem ok_mk (m : Mk) : OkPath (mkPath m) := ⟨_, rfl, mkPath_names m, fun n hn => by
  unfold namesOf at hn
  obtain ⟨x, _, rfl⟩ := List.mem_map.1 hn
  exact .inl ⟨x, rfl⟩⟩
theorem ok_dir {k : Nat} (hk : k < 10) (t : Lab) : OkPath (dirN k t).path := ⟨[nmK k], dir_path k t, nmK_names hk, fun n hn => by
  rw [List.mem_singleton] at hn
  exact .inr ⟨k, hk, hn⟩⟩
theorem first_paths {ts : List Lab} (hn : ts.length < 10) : ∀ x ∈ firstN ts, OkPath x.path := fun x hx => by
  have hl := dist_len ts ts.length
  rcases first_mem hx with rfl | ⟨k, t, hk, ht, rfl⟩
  · exact ok_slash
  · exact ok_dir (by omega) t
theorem step_paths {l : List Nod} (h : ∀ x ∈ l, OkPath x.path) (m : Mk) : ∀ x ∈ growStep l m, OkPath x.path := fun x hx => by
  unfold growStep at hx
  split at hx
  · exact h x hx
  · split at hx
    · exact h x hx
    · split at hx
      · rcases put_mem.1 hx with rfl | ⟨hx, _⟩
        · rw [mkN_path]
          exact ok_mk m
        · exact h x hx
      · exact h x hx
theorem fold_paths : ∀ (ms : List Mk) {l : List Nod}, (∀ x ∈ l, OkPath x.path) → ∀ x ∈ ms.foldl growStep l, OkPath x.path
  | [], _, h => h
  | m :: r, _, h => fold_paths r (step_paths h m)
theorem grow_paths (ts : List Lab) (ms : List Mk) : ∀ x ∈ growN ts ms, OkPath x.path := fold_paths _ (first_paths (by rw [List.length_map, List.length_take]; omega))
def zzS : ByteArray := ⟨#[122, 122]⟩
def noS : ByteArray := ⟨#[110, 111]⟩
theorem okName_head {n : ByteArray} (h : OkName n) : ∃ c r, bytes n = c :: r ∧ (97 ≤ c.toNat ∧ c.toNat ≤ 101 ∨ c.toNat = 108) := by
  rcases h with ⟨x, rfl⟩ | ⟨k, hk, rfl⟩
  · have := letter_lo x
    refine ⟨UInt8.ofNat (letterOf x), List.replicate (x % 3).toNat (UInt8.ofNat (letterOf x)), by simp [bytes, nameOf, List.replicate_succ], .inl ?_⟩
    rw [UInt8.toNat_ofNat']
    omega
  · exact ⟨108, [UInt8.ofNat (48 + k)], rfl, .inr rfl⟩
theorem zz_not : ¬ OkName zzS := fun h => by
  obtain ⟨c, r, hb, hc⟩ := okName_head h
  have : (bytes zzS) = [122, 122] := rfl
  rw [this] at hb
  injection hb with h1 h2
  subst h1
  revert hc
  decide
theorem no_not : ¬ OkName noS := fun h => by
  obtain ⟨c, r, hb, hc⟩ := okName_head h
  have : (bytes noS) = [110, 111] := rfl
  rw [this] at hb
  injection hb with h1 h2
  subst h1
  revert hc
  decide
/-- A path that goes through another name is none of them. -/
theorem path_not {ns : List ByteArray} (hf : ∀ n ∈ ns, Flat n ∧ 1 ≤ n.size) {b : ByteArray} (hb : b ∈ ns) (hn : ¬ OkName b) : ¬ OkPath (pathB ns) := fun h => by
  obtain ⟨ms, e, hm, hk⟩ := h
  have h1 := parts_path hf
  have h2 := parts_path hm.flat
  rw [e, h2] at h1
  subst h1
  exact hn (hk b hb)
end Go.Proofs.Ytajondkpdgiolaa
