/-
  THE DOCUMENT'S OWN DISK: Flush.
-/
import Derived.Test.YtcnejanckolklaaPlaysRead
namespace Go.Proofs.Ytcnejanckolklaa
open Go.RowKit Go.Maps
set_option linter.unusedSimpArgs false

def vb (v : Value) : List Nat := match v.ownBlock with | some b => [b] | none => []
def flOf (e : Sc) : Sc := { e with og := e.lg, oc := e.lc, on := e.last, d := false }
/-- The first i are done. -/
def upTo (f : Sc → Sc) (es : List Sc) (i : Nat) : List Sc := (es.take i).map f ++ es.drop i
theorem upTo_len (f : Sc → Sc) (es : List Sc) (i : Nat) : (upTo f es i).length = es.length := by simp [upTo]; omega
theorem upTo_zero (f : Sc → Sc) (es : List Sc) : upTo f es 0 = es := by simp [upTo]
theorem upTo_end (f : Sc → Sc) (es : List Sc) : upTo f es es.length = es.map f := by simp [upTo]
theorem upTo_at (f : Sc → Sc) {es : List Sc} {i : Nat} {e : Sc} (h : es[i]? = some e) : (upTo f es i)[i]? = some e := by
  have hl := (List.getElem?_eq_some_iff.1 h).1
  unfold upTo
  rw [List.getElem?_append_right (by simp; omega)]
  simp [show min i es.length = i by omega, h]
theorem upTo_set (f : Sc → Sc) {es : List Sc} {i : Nat} {e : Sc} (h : es[i]? = some e) : (upTo f es i).set i (f e) = upTo f es (i + 1) := by
  have hl := (List.getElem?_eq_some_iff.1 h).1
  have h' := (List.getElem?_eq_some_iff.1 h).2
  unfold upTo
  rw [List.set_append_right _ _ (by simp; omega), List.take_add_one, h, List.map_append, List.append_assoc, List.drop_eq_getElem_cons hl]
  simp [show min i es.length = i by omega]
  rw [List.drop_eq_getElem_cons hl]
  rfl
theorem upTo_mem (f : Sc → Sc) {es : List Sc} {i : Nat} {e : Sc} (h : e ∈ upTo f es i) : e ∈ es ∨ ∃ x ∈ es, e = f x := by
  rcases List.mem_append.1 h with h | h
  · obtain ⟨x, hx, rfl⟩ := List.mem_map.1 h
    exact .inr ⟨x, List.mem_of_mem_take hx, rfl⟩
  · exact .inl (List.mem_of_mem_drop h)

section
variable {w w' : World} {F : List Nat} {xb : Nat} {v : Value} {N : Nat} {es : List Sc} {done left : Int} {dead : Bool}

theorem rflush_dead (h : RefAt w F xb v N es done left true) :
    Calls Try.prog 14 #[.pointer (some ⟨xb, 0, none⟩)] w fun e w' => e = .returned (.int .i64 12) ∧ w' = w := by
  have c4 := h.c4
  go_enter Try.func14, Try.ntmps14
  go_wp2
  go_ret
  exact ⟨rfl, rfl⟩
theorem rflush_stops (h : RefAt w F xb v N es done left false) (hl : left = 1) :
    Calls Try.prog 14 #[.pointer (some ⟨xb, 0, none⟩)] w fun e w' => e = .returned (.int .i64 12) ∧ RefAt w' F xb v N es done 0 true ∧ Kept [xb] w w' := by
  have c4 := h.c4
  have cg := goes_stops h hl
  go_enter Try.func14, Try.ntmps14
  go_wp2_with fail
  refine cg.mono ?_
  rintro e w1 ⟨rfl, r1, k1⟩
  go_wp2_with fail
  go_ret
  exact ⟨rfl, r1, k1⟩

set_option maxHeartbeats 4000000 in
theorem rflush_any (h : RefAt w F xb v N es done left false) (hl : left ≠ 1) (ho : 0 ≤ done) (ho2 : done < 1000000) (hb : left < 9223372036854775808) :
    Calls Try.prog 14 #[.pointer (some ⟨xb, 0, none⟩)] w fun e w' => e = .returned (.int .i64 0) ∧ RefAt w' F xb v N (es.map flOf) (done + 1) (if 1 < left then left - 1 else left) false ∧ Kept (xb :: vb v) w w' := by
  have c4 := h.c4
  have cg := goes_any h hl ho ho2 hb
  have hfew := h.few
  obtain ⟨len, hlen⟩ : ∃ len, es.length = len := ⟨_, rfl⟩
  rw [hlen] at hfew
  generalize (if 1 < left then left - 1 else left) = lf at *
  go_enter Try.func14, Try.ntmps14
  go_wp2_with fail
  refine cg.mono ?_
  rintro e w1 ⟨rfl, r1, k1⟩
  clear cg c4
  go_wp2_with fail
  go_loopw [3] (fun t3 wr => ∃ i : Nat, i ≤ len ∧ t3 = .int .i64 (i : Int) ∧ RefAt wr F xb v N (upTo flOf es i) (done + 1) lf false ∧ Kept (xb :: vb v) w wr) (fun t3 _ => len - (Go.RowKit.intOf t3).toNat)
  case atStart => exact ⟨0, by omega, rfl, by rw [upTo_zero]; exact r1, k1.mono (by simp)⟩
  case round =>
    obtain ⟨i, hi, rfl, R, K⟩ := hrel
    clear r1 k1
    have hul := upTo_len flOf es i
    rw [hlen] at hul
    have c1 := R.c1
    by_cases hlt : i < len
    · obtain ⟨x, hx⟩ : ∃ x, es[i]? = some x := ⟨_, List.getElem?_eq_getElem (by omega)⟩
      have hu := upTo_at flOf hx
      obtain ⟨g, cap, rfl, s0, s1, s2, s3, fz, hgx⟩ := R.sect hul hu
      have Rd := R.kept (Kept.refl [] wr).drew (by simp)
      obtain ⟨b1, o1, b2, o2, f1, f2⟩ := Rd.bytes x (List.mem_of_getElem? hu)
      have fz1 := fz (i * 4 + 1)
      have hSd : (fun W : World => W.cell? ⟨xb, 1, none⟩ = some (.slice (some ⟨g, 0, none⟩) len cap) ∧ W.cell? ⟨g, i * 4 + 2, none⟩ = some (bv x.lg x.lc) ∧ W.frozen? ⟨g, i * 4 + 1, none⟩ = false) wr.drew := ⟨c1, s2, fz1⟩
      obtain ⟨R1, K1⟩ := Rd.stored (i * 4 + 1) (bv x.lg x.lc) ((upTo flOf es i).set i { x with og := x.lg, oc := x.lc, on := x.last }) (by simp) (es_set1 _ _ _ _ _ _ hu) (fun e he => by
        rcases List.mem_or_eq_of_mem_set he with he | rfl
        · exact Rd.bytes e he
        · exact ⟨b2, o2, b2, o2, f2, f2⟩)
      obtain ⟨W1, hW1⟩ : ∃ W1, wr.drew.setCell ⟨g, i * 4 + 1, none⟩ (bv x.lg x.lc) = W1 := ⟨_, rfl⟩
      rw [hW1] at R1 K1
      have hu1 : ((upTo flOf es i).set i { x with og := x.lg, oc := x.lc, on := x.last })[i]? = some { x with og := x.lg, oc := x.lc, on := x.last } := by
        rw [List.getElem?_set_self (by omega)]
      have q1 := R1.c1
      obtain ⟨t0, t1, t2, t3, fz', _⟩ := R1.sect' hu1
      have hSe : (fun W : World => W.cell? ⟨xb, 1, none⟩ = some (.slice (some ⟨g, 0, none⟩) len cap) ∧ W.cell? ⟨g, i * 4 + 2, none⟩ = some (bv x.lg x.lc) ∧ W.frozen? ⟨g, i * 4 + 1, none⟩ = false) W1 := ⟨q1, t2, fz' _⟩
      have fz3 := fz' (i * 4 + 3)
      obtain ⟨R2, K2⟩ := R1.stored (i * 4 + 3) (.bool false) (((upTo flOf es i).set i { x with og := x.lg, oc := x.lc, on := x.last }).set i (flOf x)) (by simp) (es_set3 _ _ _ false hu1) (fun e he => by
        rcases List.mem_or_eq_of_mem_set he with he | rfl
        · exact R1.bytes e he
        · have := R1.bytes _ (List.mem_of_getElem? hu1)
          exact this)
      rw [List.set_set, upTo_set flOf hx] at R2
      have KK : Kept (xb :: vb (.slice (some ⟨g, 0, none⟩) len cap)) w (W1.setCell ⟨g, i * 4 + 3, none⟩ (.bool false)) := (K.drew.trans (K1.mono (by simp [vb, Value.ownBlock]))).trans (K2.mono (by simp [vb, Value.ownBlock]))
      clear R R1 K K1 K2 Rd b1 b2 f1 f2 fz
      as_aux_lemma =>
        go_wp2_with fail
        refine wp_region_held_drew (S := (fun W : World => W.cell? ⟨xb, 1, none⟩ = some (.slice (some ⟨g, 0, none⟩) len cap) ∧ W.cell? ⟨g, i * 4 + 2, none⟩ = some (bv x.lg x.lc) ∧ W.frozen? ⟨g, i * 4 + 1, none⟩ = false)) (by kernel_rfl) (by first | exact hSd | exact hSe) ?_
        intro hHeld
        first | (refine wpAnyH_take (i := 0) (v := ?_) (by simp only [List.getElem?_toArray, List.getElem?_cons_zero, List.getElem?_cons_succ]; rfl) (by kernel_rfl) (by kernel_rfl) (by kernel_rfl) (by exact fun _ _ _ h => h) (Or.inl ⟨by rfl, ?_⟩) (by assumption) ?_; rotate_left; (focus (intro w hSw; (try dsimp only at hSw); go_simp; try with_reducible rfl)); simp only [Act.put, List.setIfInBounds_toArray, List.set_cons_zero, List.set_cons_succ, hW1]) | (refine wpAnyH_take (i := 0) (v := undef) (by simp only [List.getElem?_toArray, List.getElem?_cons_zero, List.getElem?_cons_succ]; rfl) (by kernel_rfl) (by kernel_rfl) (by kernel_rfl) (by exact fun _ _ _ h => h) (Or.inr ⟨by rfl, rfl⟩) (by assumption) ?_; simp only [Act.put, List.setIfInBounds_toArray, List.set_cons_zero, List.set_cons_succ, hW1]) | fail
        first | (refine wpAnyH_take (i := 1) (v := ?_) (by simp only [List.getElem?_toArray, List.getElem?_cons_zero, List.getElem?_cons_succ]; rfl) (by kernel_rfl) (by kernel_rfl) (by kernel_rfl) (by exact fun _ _ _ h => h) (Or.inl ⟨by rfl, ?_⟩) (by assumption) ?_; rotate_left; (focus (intro w hSw; (try dsimp only at hSw); go_simp; try with_reducible rfl)); simp only [Act.put, List.setIfInBounds_toArray, List.set_cons_zero, List.set_cons_succ, hW1]) | (refine wpAnyH_take (i := 1) (v := undef) (by simp only [List.getElem?_toArray, List.getElem?_cons_zero, List.getElem?_cons_succ]; rfl) (by kernel_rfl) (by kernel_rfl) (by kernel_rfl) (by exact fun _ _ _ h => h) (Or.inr ⟨by rfl, rfl⟩) (by assumption) ?_; simp only [Act.put, List.setIfInBounds_toArray, List.set_cons_zero, List.set_cons_succ, hW1]) | fail
        first | (refine wpAnyH_take (i := 2) (v := ?_) (by simp only [List.getElem?_toArray, List.getElem?_cons_zero, List.getElem?_cons_succ]; rfl) (by kernel_rfl) (by kernel_rfl) (by kernel_rfl) (by exact fun _ _ _ h => h) (Or.inl ⟨by rfl, ?_⟩) (by assumption) ?_; rotate_left; (focus (intro w hSw; (try dsimp only at hSw); go_simp; try with_reducible rfl)); simp only [Act.put, List.setIfInBounds_toArray, List.set_cons_zero, List.set_cons_succ, hW1]) | (refine wpAnyH_take (i := 2) (v := undef) (by simp only [List.getElem?_toArray, List.getElem?_cons_zero, List.getElem?_cons_succ]; rfl) (by kernel_rfl) (by kernel_rfl) (by kernel_rfl) (by exact fun _ _ _ h => h) (Or.inr ⟨by rfl, rfl⟩) (by assumption) ?_; simp only [Act.put, List.setIfInBounds_toArray, List.set_cons_zero, List.set_cons_succ, hW1]) | fail
        first | (refine wpAnyH_take (i := 3) (v := ?_) (by simp only [List.getElem?_toArray, List.getElem?_cons_zero, List.getElem?_cons_succ]; rfl) (by kernel_rfl) (by kernel_rfl) (by kernel_rfl) (by exact fun _ _ _ h => h) (Or.inl ⟨by rfl, ?_⟩) (by assumption) ?_; rotate_left; (focus (intro w hSw; (try dsimp only at hSw); go_simp; try with_reducible rfl)); simp only [Act.put, List.setIfInBounds_toArray, List.set_cons_zero, List.set_cons_succ, hW1]) | (refine wpAnyH_take (i := 3) (v := undef) (by simp only [List.getElem?_toArray, List.getElem?_cons_zero, List.getElem?_cons_succ]; rfl) (by kernel_rfl) (by kernel_rfl) (by kernel_rfl) (by exact fun _ _ _ h => h) (Or.inr ⟨by rfl, rfl⟩) (by assumption) ?_; simp only [Act.put, List.setIfInBounds_toArray, List.set_cons_zero, List.set_cons_succ, hW1]) | fail
        first | (refine wpAnyH_take (i := 4) (v := ?_) (by simp only [List.getElem?_toArray, List.getElem?_cons_zero, List.getElem?_cons_succ]; rfl) (by kernel_rfl) (by kernel_rfl) (by kernel_rfl) (by exact fun _ _ _ h => h) (Or.inl ⟨by rfl, ?_⟩) (by assumption) ?_; rotate_left; (focus (intro w hSw; (try dsimp only at hSw); go_simp; try with_reducible rfl)); simp only [Act.put, List.setIfInBounds_toArray, List.set_cons_zero, List.set_cons_succ, hW1]) | (refine wpAnyH_take (i := 4) (v := undef) (by simp only [List.getElem?_toArray, List.getElem?_cons_zero, List.getElem?_cons_succ]; rfl) (by kernel_rfl) (by kernel_rfl) (by kernel_rfl) (by exact fun _ _ _ h => h) (Or.inr ⟨by rfl, rfl⟩) (by assumption) ?_; simp only [Act.put, List.setIfInBounds_toArray, List.set_cons_zero, List.set_cons_succ, hW1]) | fail
        first | (refine wpAnyH_take (i := 5) (v := ?_) (by simp only [List.getElem?_toArray, List.getElem?_cons_zero, List.getElem?_cons_succ]; rfl) (by kernel_rfl) (by kernel_rfl) (by kernel_rfl) (by exact fun _ _ _ h => h) (Or.inl ⟨by rfl, ?_⟩) (by assumption) ?_; rotate_left; (focus (intro w hSw; (try dsimp only at hSw); go_simp; try with_reducible rfl)); simp only [Act.put, List.setIfInBounds_toArray, List.set_cons_zero, List.set_cons_succ, hW1]) | (refine wpAnyH_take (i := 5) (v := undef) (by simp only [List.getElem?_toArray, List.getElem?_cons_zero, List.getElem?_cons_succ]; rfl) (by kernel_rfl) (by kernel_rfl) (by kernel_rfl) (by exact fun _ _ _ h => h) (Or.inr ⟨by rfl, rfl⟩) (by assumption) ?_; simp only [Act.put, List.setIfInBounds_toArray, List.set_cons_zero, List.set_cons_succ, hW1]) | fail
        first | (refine wpAnyH_take (i := 6) (v := ?_) (by simp only [List.getElem?_toArray, List.getElem?_cons_zero, List.getElem?_cons_succ]; rfl) (by kernel_rfl) (by kernel_rfl) (by kernel_rfl) (by exact fun _ _ _ h => h) (Or.inl ⟨by rfl, ?_⟩) (by assumption) ?_; rotate_left; (focus (intro w hSw; (try dsimp only at hSw); go_simp; try with_reducible rfl)); simp only [Act.put, List.setIfInBounds_toArray, List.set_cons_zero, List.set_cons_succ, hW1]) | (refine wpAnyH_take (i := 6) (v := undef) (by simp only [List.getElem?_toArray, List.getElem?_cons_zero, List.getElem?_cons_succ]; rfl) (by kernel_rfl) (by kernel_rfl) (by kernel_rfl) (by exact fun _ _ _ h => h) (Or.inr ⟨by rfl, rfl⟩) (by assumption) ?_; simp only [Act.put, List.setIfInBounds_toArray, List.set_cons_zero, List.set_cons_succ, hW1]) | fail
        first | (refine wpAnyH_take (i := 7) (v := ?_) (by simp only [List.getElem?_toArray, List.getElem?_cons_zero, List.getElem?_cons_succ]; rfl) (by kernel_rfl) (by kernel_rfl) (by kernel_rfl) (by exact fun _ _ _ h => h) (Or.inl ⟨by rfl, ?_⟩) (by assumption) ?_; rotate_left; (focus (intro w hSw; (try dsimp only at hSw); go_simp; try with_reducible rfl)); simp only [Act.put, List.setIfInBounds_toArray, List.set_cons_zero, List.set_cons_succ, hW1]) | (refine wpAnyH_take (i := 7) (v := undef) (by simp only [List.getElem?_toArray, List.getElem?_cons_zero, List.getElem?_cons_succ]; rfl) (by kernel_rfl) (by kernel_rfl) (by kernel_rfl) (by exact fun _ _ _ h => h) (Or.inr ⟨by rfl, rfl⟩) (by assumption) ?_; simp only [Act.put, List.setIfInBounds_toArray, List.set_cons_zero, List.set_cons_succ, hW1]) | fail
        first | (refine wpAnyH_take (i := 8) (v := ?_) (by simp only [List.getElem?_toArray, List.getElem?_cons_zero, List.getElem?_cons_succ]; rfl) (by kernel_rfl) (by kernel_rfl) (by kernel_rfl) (by exact fun _ _ _ h => h) (Or.inl ⟨by rfl, ?_⟩) (by assumption) ?_; rotate_left; (focus (intro w hSw; (try dsimp only at hSw); go_simp; try with_reducible rfl)); simp only [Act.put, List.setIfInBounds_toArray, List.set_cons_zero, List.set_cons_succ, hW1]) | (refine wpAnyH_take (i := 8) (v := undef) (by simp only [List.getElem?_toArray, List.getElem?_cons_zero, List.getElem?_cons_succ]; rfl) (by kernel_rfl) (by kernel_rfl) (by kernel_rfl) (by exact fun _ _ _ h => h) (Or.inr ⟨by rfl, rfl⟩) (by assumption) ?_; simp only [Act.put, List.setIfInBounds_toArray, List.set_cons_zero, List.set_cons_succ, hW1]) | fail
        first | (refine wpAnyH_take (i := 9) (v := ?_) (by simp only [List.getElem?_toArray, List.getElem?_cons_zero, List.getElem?_cons_succ]; rfl) (by kernel_rfl) (by kernel_rfl) (by kernel_rfl) (by exact fun _ _ _ h => h) (Or.inl ⟨by rfl, ?_⟩) (by assumption) ?_; rotate_left; (focus (intro w hSw; (try dsimp only at hSw); go_simp; try with_reducible rfl)); simp only [Act.put, List.setIfInBounds_toArray, List.set_cons_zero, List.set_cons_succ, hW1]) | (refine wpAnyH_take (i := 9) (v := undef) (by simp only [List.getElem?_toArray, List.getElem?_cons_zero, List.getElem?_cons_succ]; rfl) (by kernel_rfl) (by kernel_rfl) (by kernel_rfl) (by exact fun _ _ _ h => h) (Or.inr ⟨by rfl, rfl⟩) (by assumption) ?_; simp only [Act.put, List.setIfInBounds_toArray, List.set_cons_zero, List.set_cons_succ, hW1]) | fail
        first | (refine wpAnyH_take (i := 10) (v := ?_) (by simp only [List.getElem?_toArray, List.getElem?_cons_zero, List.getElem?_cons_succ]; rfl) (by kernel_rfl) (by kernel_rfl) (by kernel_rfl) (by exact fun _ _ _ h => h) (Or.inl ⟨by rfl, ?_⟩) (by assumption) ?_; rotate_left; (focus (intro w hSw; (try dsimp only at hSw); go_simp; try with_reducible rfl)); simp only [Act.put, List.setIfInBounds_toArray, List.set_cons_zero, List.set_cons_succ, hW1]) | (refine wpAnyH_take (i := 10) (v := undef) (by simp only [List.getElem?_toArray, List.getElem?_cons_zero, List.getElem?_cons_succ]; rfl) (by kernel_rfl) (by kernel_rfl) (by kernel_rfl) (by exact fun _ _ _ h => h) (Or.inr ⟨by rfl, rfl⟩) (by assumption) ?_; simp only [Act.put, List.setIfInBounds_toArray, List.set_cons_zero, List.set_cons_succ, hW1]) | fail
        first | (refine wpAnyH_take (i := 11) (v := ?_) (by simp only [List.getElem?_toArray, List.getElem?_cons_zero, List.getElem?_cons_succ]; rfl) (by kernel_rfl) (by kernel_rfl) (by kernel_rfl) (by exact fun _ _ _ h => h) (Or.inl ⟨by rfl, ?_⟩) (by assumption) ?_; rotate_left; (focus (intro w hSw; (try dsimp only at hSw); go_simp; try with_reducible rfl)); simp only [Act.put, List.setIfInBounds_toArray, List.set_cons_zero, List.set_cons_succ, hW1]) | (refine wpAnyH_take (i := 11) (v := undef) (by simp only [List.getElem?_toArray, List.getElem?_cons_zero, List.getElem?_cons_succ]; rfl) (by kernel_rfl) (by kernel_rfl) (by kernel_rfl) (by exact fun _ _ _ h => h) (Or.inr ⟨by rfl, rfl⟩) (by assumption) ?_; simp only [Act.put, List.setIfInBounds_toArray, List.set_cons_zero, List.set_cons_succ, hW1]) | fail
        first | (refine wpAnyH_take (i := 12) (v := ?_) (by simp only [List.getElem?_toArray, List.getElem?_cons_zero, List.getElem?_cons_succ]; rfl) (by kernel_rfl) (by kernel_rfl) (by kernel_rfl) (by exact fun _ _ _ h => h) (Or.inl ⟨by rfl, ?_⟩) (by assumption) ?_; rotate_left; (focus (intro w hSw; (try dsimp only at hSw); go_simp; try with_reducible rfl)); simp only [Act.put, List.setIfInBounds_toArray, List.set_cons_zero, List.set_cons_succ, hW1]) | (refine wpAnyH_take (i := 12) (v := undef) (by simp only [List.getElem?_toArray, List.getElem?_cons_zero, List.getElem?_cons_succ]; rfl) (by kernel_rfl) (by kernel_rfl) (by kernel_rfl) (by exact fun _ _ _ h => h) (Or.inr ⟨by rfl, rfl⟩) (by assumption) ?_; simp only [Act.put, List.setIfInBounds_toArray, List.set_cons_zero, List.set_cons_succ, hW1]) | fail
        first | (refine wpAnyH_take (i := 13) (v := ?_) (by simp only [List.getElem?_toArray, List.getElem?_cons_zero, List.getElem?_cons_succ]; rfl) (by kernel_rfl) (by kernel_rfl) (by kernel_rfl) (by exact fun _ _ _ h => h) (Or.inl ⟨by rfl, ?_⟩) (by assumption) ?_; rotate_left; (focus (intro w hSw; (try dsimp only at hSw); go_simp; try with_reducible rfl)); simp only [Act.put, List.setIfInBounds_toArray, List.set_cons_zero, List.set_cons_succ, hW1]) | (refine wpAnyH_take (i := 13) (v := undef) (by simp only [List.getElem?_toArray, List.getElem?_cons_zero, List.getElem?_cons_succ]; rfl) (by kernel_rfl) (by kernel_rfl) (by kernel_rfl) (by exact fun _ _ _ h => h) (Or.inr ⟨by rfl, rfl⟩) (by assumption) ?_; simp only [Act.put, List.setIfInBounds_toArray, List.set_cons_zero, List.set_cons_succ, hW1]) | fail
        first | (refine wpAnyH_take (i := 14) (v := ?_) (by simp only [List.getElem?_toArray, List.getElem?_cons_zero, List.getElem?_cons_succ]; rfl) (by kernel_rfl) (by kernel_rfl) (by kernel_rfl) (by exact fun _ _ _ h => h) (Or.inl ⟨by rfl, ?_⟩) (by assumption) ?_; rotate_left; (focus (intro w hSw; (try dsimp only at hSw); go_simp; try with_reducible rfl)); simp only [Act.put, List.setIfInBounds_toArray, List.set_cons_zero, List.set_cons_succ, hW1]) | (refine wpAnyH_take (i := 14) (v := undef) (by simp only [List.getElem?_toArray, List.getElem?_cons_zero, List.getElem?_cons_succ]; rfl) (by kernel_rfl) (by kernel_rfl) (by kernel_rfl) (by exact fun _ _ _ h => h) (Or.inr ⟨by rfl, rfl⟩) (by assumption) ?_; simp only [Act.put, List.setIfInBounds_toArray, List.set_cons_zero, List.set_cons_succ, hW1]) | fail
        refine wpAnyH_ready (rs := [15]) (by kernel_rfl) (by simp) ?_; refine AllReadyH.cons (by simp only [List.getElem?_toArray, List.getElem?_cons_zero, List.getElem?_cons_succ]; rfl) (fun K hK => ?_) AllReadyH.nil; go_simp; refine hK.out _ _ (by first | exact hSd | exact hSe) ?_; clear hHeld hK; intro hHeld; (try simp only [Act.put, List.setIfInBounds_toArray, List.set_cons_zero, List.set_cons_succ, hW1])
        refine wpAnyH_done (by kernel_rfl) ?_ _
        clear hSd hSe hHeld
        go_wp2_with fail
        exact ⟨⟨i + 1, by omega, by simp, R2, KK⟩, by simp [Go.RowKit.intOf]; omega⟩
    · as_aux_lemma =>
        obtain ⟨a, cap, rfl⟩ := R.slice hul
        obtain rfl : i = es.length := by omega
        rw [upTo_end] at R
        go_wp2_with fail
        go_ret
        exact ⟨rfl, R, K⟩
end
end Go.Proofs.Ytcnejanckolklaa
