/-
  A LOG ON A DISK THAT DOES NOT STOP; the laws' own small functions: within, known (what was committed is there when it is opened again).
-/
import Derived.Test.YtgjnlocokkjejaaWalPut
import Derived.Test.YtgjnlocokkjejaaDiskText
namespace Go.Proofs.Ytgjnlocokkjejaa
open Go.RowKit Go.Maps

set_option maxHeartbeats 400000 in
theorem within_any (k m : Int) (h0 : 0 < m) (h1 : m < 1000000) (w : World) :
    Calls Try.prog 26 #[.int .i64 k, .int .i64 m] w fun e w' => e = .returned (.int .i64 (k % m)) ∧ w' = w := by
  have b1 := Int.lt_tmod_of_pos k h0
  have b2 := Int.tmod_lt_of_pos k h0
  have hm0 : ¬ m = 0 := by omega
  have hm1 : ¬ m = -1 := by omega
  by_cases hn : k.tmod m < 0
  · have e1 : k % m = k.tmod m + m := by
      rw [Int.tmod_eq_emod] at hn ⊢
      split at hn
      · have := Int.emod_nonneg k (by omega : m ≠ 0); omega
      · rename_i hc; rw [if_neg hc]; rw [Int.natAbs_of_nonneg (by omega)]; omega
    rw [e1]
    clear e1
    go_enter Try.func26, Try.ntmps26
    go_wp2
    go_ret
    exact ⟨rfl, rfl⟩
  · have e1 : k % m = k.tmod m := by
      rw [Int.tmod_eq_emod] at hn ⊢
      split
      · simp
      · rename_i hc
        rw [if_neg hc] at hn
        have h3 := Int.emod_lt_of_pos k h0
        rw [Int.natAbs_of_nonneg (by omega)] at hn
        omega
    rw [e1]
    clear e1
    go_enter Try.func26, Try.ntmps26
    go_wp2
    go_ret
    exact ⟨rfl, rfl⟩

/-- A disk that is new. -/
def freshDsk : Dsk := ⟨fun _ => zeros, fun _ => none, 0, false⟩
theorem newDisk (n : Nat) (h1 : 1 ≤ n) (h2 : n ≤ 4096) (w : World) :
    Calls Try.prog 8 #[.int .i64 (n : Int)] w fun e w' => ∃ db pb mb, e = .returned (.tuple #[.pointer (some ⟨db, 0, none⟩), .int .i64 0]) ∧ DiskIs w' db pb mb n 0 freshDsk ∧
      w.heap.size ≤ db ∧ w.heap.size ≤ pb ∧ w.heap.size ≤ mb ∧ Kept [] w w' :=
  (new_ex n h1 h2 w).mono fun _ _ ⟨db, pb, mb, he, hD, a, b, c, hK⟩ => ⟨db, pb, mb, he, ⟨0, _, 0, hD, by rw [bf_none]; rfl, Nat.le_refl _, Int.le_refl _, Int.le_refl _, Int.le_refl _, (by decide : (0 : Int) < 1000000)⟩, a, b, c, hK⟩
theorem fresh_idle : IdleOn freshDsk 0 := ⟨by decide, by decide, by decide, by decide⟩

/-- It does not stop: all is done. -/
theorem run_live : ∀ (r : List DOp) {σ : Dsk}, σ.left = 0 → (σ.run r).2 = true ∧ (σ.run r).1.left = 0
  | [], σ, h => ⟨rfl, h⟩
  | o :: r, σ, h => by
    rw [Dsk.run_go (by omega)]
    refine run_live r ?_
    rcases o with _ | ⟨k, l⟩ <;> simp [Dsk.ap, Dsk.dec, h]

theorem userFold_none (ps : List PutV) (F : Nat → List Int) (k : Nat) : ∀ m, (∀ j, j < m → (ps.getD j zPV).N ≠ k) → (userOps ps m).foldl nw F k = F k
  | 0, _ => rfl
  | m + 1, h => by
    rw [userOps_succ, List.foldl_append]
    simp only [List.foldl_cons, List.foldl_nil, nw]
    rw [if_neg (by have := h m (by omega); omega), userFold_none ps F k m (fun j hj => h j (by omega))]
theorem userFold_some (ps : List PutV) (F : Nat → List Int) (k : Nat) (i : Nat) (hi : (ps.getD i zPV).N = k) : ∀ m, i < m → (∀ j, j < m → i < j → (ps.getD j zPV).N ≠ k) → (userOps ps m).foldl nw F k = (ps.getD i zPV).bytes
  | 0, h, _ => by omega
  | m + 1, h, hn => by
    rw [userOps_succ, List.foldl_append]
    simp only [List.foldl_cons, List.foldl_nil, nw]
    by_cases e : i = m
    · subst e; rw [if_pos hi.symm]
    · rw [if_neg (by have := hn m (by omega) (by omega); omega), userFold_some ps F k i hi m (by omega) (fun j hj => hn j (by omega))]

/-- What is newest behind a commit: the mark; the user's sectors. -/
theorem commit_mark (s : Int) (ps : List PutV) (F : Nat → List Int) : (commitOps s ps).foldl nw F 0 = markOf (s + 1) 0 := by
  simp only [commitOps, tailOps, List.foldl_append, List.foldl_cons, List.foldl_nil, nw, if_true]
theorem commit_user (s : Int) (ps : List PutV) (F : Nat → List Int) (k : Nat) (hk : 42 ≤ k) (hm : ps.length ≤ 40) :
    (commitOps s ps).foldl nw F k = (userOps ps ps.length).foldl nw ((enterOps (s + 1) ps).foldl nw F) k ∧ (enterOps (s + 1) ps).foldl nw F k = F k := by
  refine ⟨?_, ?_⟩
  · simp only [commitOps, tailOps, List.foldl_append, List.foldl_cons, List.foldl_nil, nw]
    rw [if_neg (by omega)]
    have : ∀ (m : Nat) (F G : Nat → List Int), F k = G k → (userOps ps m).foldl nw F k = (userOps ps m).foldl nw G k := by
      intro m
      induction m with
      | zero => intro F G h; exact h
      | succ m ih =>
        intro F G h
        rw [userOps_succ, List.foldl_append, List.foldl_append]
        simp only [List.foldl_cons, List.foldl_nil, nw]
        rw [ih F G h]
    refine this _ _ _ ?_
    rw [if_neg (by omega)]
  · rw [newest_enter, if_neg (by omega), if_neg (by omega)]
theorem commit_other (s : Int) {n : Nat} {ps : List PutV} (hg : GoodPuts n ps) (F : Nat → List Int) (k : Nat) (hk : 42 ≤ k) (h : ∀ x ∈ ps, x.N ≠ k) : (commitOps s ps).foldl nw F k = F k := by
  obtain ⟨h1, h2⟩ := commit_user s ps F k hk hg.few
  rw [h1, userFold_none ps _ k _ (fun j hj => h _ (by
    rw [show ps.getD j zPV = ps[j] by simp [List.getD, hj]]
    exact List.getElem_mem _)), h2]
theorem commit_there (s : Int) {n : Nat} {ps : List PutV} (hg : GoodPuts n ps) (F : Nat → List Int) (i : Nat) (x : PutV) (hx : ps[i]? = some x) : (commitOps s ps).foldl nw F x.N = x.bytes := by
  have hi : i < ps.length := (List.getElem?_eq_some_iff.1 hx).1
  have hxd : ps.getD i zPV = x := by simp [List.getD, hx]
  obtain ⟨h1, h2⟩ := commit_user s ps F x.N (hg.range x (List.mem_of_getElem? hx)).1 hg.few
  rw [h1, userFold_some ps _ x.N i (by rw [hxd]) _ hi (fun j hj hij => by
    rw [show ps.getD j zPV = ps[j] by simp [List.getD, hj]]
    exact fun e => hg.apart i j x ps[j] hx (List.getElem?_eq_getElem hj) hij e.symm), hxd]

/-- A log that works on a disk that does not stop: what its user's sectors have, how many commits were done. -/
structure Works (w : World) (lb db pb mb n B : Nat) (U : Nat → List Int) (s : Int) : Prop where
  log : ∃ σ s0, LogIs w lb db pb mb n B σ s0 ∧ σ.dead = false ∧ σ.left = 0 ∧ IdleOn σ s ∧ ∀ k, 42 ≤ k → k < n → σ.newest k = U k
  size : 42 < n

section
variable {w w' : World} {lb db pb mb n B : Nat} {U : Nat → List Int} {s : Int}
theorem Works.kept {S : List Nat} (h : Works w lb db pb mb n B U s) (k : Kept S w w') (h0 : lb ∉ S) (h1 : db ∉ S) (h2 : pb ∉ S) (h3 : mb ∉ S) : Works w' lb db pb mb n B U s := by
  obtain ⟨⟨σ, s0, hL, r⟩, hn⟩ := h
  exact ⟨⟨σ, s0, hL.kept k h0 h1 h2 h3, r⟩, hn⟩
theorem Works.lts (h : Works w lb db pb mb n B U s) : lb < w.heap.size ∧ db < w.heap.size ∧ pb < w.heap.size ∧ mb < w.heap.size := by
  obtain ⟨⟨σ, s0, hL, r⟩, hn⟩ := h
  exact ⟨hL.lbl, hL.disk.dbl, hL.disk.pbl, hL.disk.mbl⟩

/-- Open, of a new disk. -/
theorem open_fresh (h : DiskIs w db pb mb n B freshDsk) (hn : 42 < n) :
    Calls Try.prog 25 #[.pointer (some ⟨db, 0, none⟩)] w fun e w' => ∃ lb, e = .returned (.tuple #[.pointer (some ⟨lb, 0, none⟩), .int .i64 0]) ∧ w.heap.size ≤ lb ∧ Works w' lb db pb mb n B (fun _ => zeros) 0 ∧ Kept [] w w' :=
  (open_idle h rfl hn fresh_idle).mono fun _ _ ⟨lb, he, hl, hL, hk⟩ => ⟨lb, he, hl, ⟨⟨freshDsk, _, hL, rfl, rfl, fresh_idle, fun _ _ _ => rfl⟩, hn⟩, hk⟩
/-- Open, of a log's disk. -/
theorem open_works {lb : Nat} (h : Works w lb db pb mb n B U s) :
    Calls Try.prog 25 #[.pointer (some ⟨db, 0, none⟩)] w fun e w' => ∃ lb, e = .returned (.tuple #[.pointer (some ⟨lb, 0, none⟩), .int .i64 0]) ∧ w.heap.size ≤ lb ∧ Works w' lb db pb mb n B U s ∧ Kept [] w w' := by
  obtain ⟨⟨σ, s0, hL, hd, h0, hI, hU⟩, hn⟩ := h
  exact (open_idle hL.disk hd hn hI).mono fun e w' ⟨lb, he, hl, hL, hk⟩ => ⟨lb, he, hl, ⟨⟨σ, _, hL, hd, h0, hI, hU⟩, hn⟩, hk⟩
theorem seq_works (h : Works w lb db pb mb n B U s) :
    Calls Try.prog 31 #[.pointer (some ⟨lb, 0, none⟩)] w fun e w' => e = .returned (.int .i64 s) ∧ Works w' lb db pb mb n B U s ∧ Kept [lb] w w' := by
  obtain ⟨⟨σ, s0, hL, hd, h0, hI, hU⟩, hn⟩ := h
  exact (seq_idle hL hd hn hI).mono fun e w' ⟨he, hL, hk⟩ => ⟨he, ⟨⟨σ, _, hL, hd, h0, hI, hU⟩, hn⟩, hk⟩
theorem read_works (h : Works w lb db pb mb n B U s) (k : Int) (h0 : 42 ≤ k) (h1 : k < n) :
    Calls Try.prog 33 #[.pointer (some ⟨lb, 0, none⟩), .int .i64 k] w fun e w' => ∃ g, e = .returned (.tuple #[.slice (some ⟨g, 0, none⟩) 128 128, .int .i64 0]) ∧ w.heap.size ≤ g ∧ Row w' g (U k.toNat) ∧ Sec (U k.toNat) ∧ Works w' lb db pb mb n B U s ∧ Kept [lb] w w' := by
  obtain ⟨⟨σ, s0, hL, hd, h00, hI, hU⟩, hn⟩ := h
  have hu := hU k.toNat (by omega) (by omega)
  have hs := hL.disk.sec k.toNat (by omega)
  exact (lRead_any hL hd hn hI k h0 h1).mono fun e w' ⟨g, he, hg, hr, hL, hk⟩ => ⟨g, he, hg, by rw [← hu]; exact hr, by rw [← hu]; exact hs, ⟨⟨σ, _, hL, hd, h00, hI, hU⟩, hn⟩, hk⟩
/-- The user's sectors behind a commit. -/
def afterPuts (U : Nat → List Int) (ps : List PutV) (k : Nat) : List Int := (userOps ps ps.length).foldl nw U k
theorem commit_works (h : Works w lb db pb mb n B U s) (hB : B < 500000) (pk cap : Nat) (ps : List PutV) (hp : PutsAt w pk ps) (hcap : ps.length ≤ cap) (hpk : pk ∉ [db, pb, mb, lb]) (hpb : ∀ x ∈ ps, x.b ∉ [db, pb, mb, lb]) (hg : GoodPuts n ps) (hs : s < 900000) :
    Calls Try.prog 29 #[.pointer (some ⟨lb, 0, none⟩), .slice (some ⟨pk, 0, none⟩) ps.length cap] w fun e w' => e = .returned (.int .i64 0) ∧ Works w' lb db pb mb n (B + 90) (afterPuts U ps) (s + 1) ∧ Kept [db, pb, mb, lb] w w' := by
  obtain ⟨⟨σ, s0, hL, hd, h0, hI, hU⟩, hn⟩ := h
  have hrun := run_live (commitOps s ps) h0
  have cC := Commit_any hL hd hn hB pk cap ps hp hcap hpk hpb hg hI
  obtain ⟨⟨σ1, ok⟩, hr⟩ : ∃ x, σ.run (commitOps s ps) = x := ⟨_, rfl⟩
  rw [hr] at cC hrun
  obtain ⟨rfl, hl1⟩ : ok = true ∧ σ1.left = 0 := hrun
  refine cC.mono ?_
  rintro e w1 ⟨rfl, ⟨s1, L1⟩, k1⟩
  have hN := newest_run _ hr
  refine ⟨rfl, ⟨⟨σ1, s1, L1, (Dsk.run_alive _ hr).trans hd, hl1, ?_, ?_⟩, hn⟩, k1⟩
  · have hm : σ1.newest 0 = markOf (s + 1) 0 := by rw [hN]; exact commit_mark _ _ _
    have := hI.lo
    exact ⟨by rw [hm, mark_state]; decide, by rw [hm, mark_seq _ _ (by omega) (by omega)], by omega, by omega⟩
  · intro k hk1 hk2
    rw [hN]
    obtain ⟨e1, e2⟩ := commit_user s ps σ.newest k hk1 hg.few
    rw [e1]
    have : ∀ (m : Nat) (F G : Nat → List Int), F k = G k → (userOps ps m).foldl nw F k = (userOps ps m).foldl nw G k := by
      intro m
      induction m with
      | zero => intro F G h; exact h
      | succ m ih =>
        intro F G h
        rw [userOps_succ, List.foldl_append, List.foldl_append]
        simp only [List.foldl_cons, List.foldl_nil, nw]
        rw [ih F G h]
    exact this _ _ _ (by rw [e2]; exact hU k hk1 hk2)
end

/-- One sector. -/
theorem one_put (w : World) (N b cap : Nat) (l : List Int) (hl : Sec l) (hr : Row w b l) : PutsAt (w.alloc (.cells #[.int .i64 (N : Int), .slice (some ⟨b, 0, none⟩) 128 cap] 69)) w.heap.size [⟨N, l, b, 0, cap⟩] ∧ Kept [] w (w.alloc (.cells #[.int .i64 (N : Int), .slice (some ⟨b, 0, none⟩) 128 cap] 69)) := by
  have ha : (w.alloc (.cells #[.int .i64 (N : Int), .slice (some ⟨b, 0, none⟩) 128 cap] 69)).heap[w.heap.size]? = some (.cells #[.int .i64 (N : Int), .slice (some ⟨b, 0, none⟩) 128 cap] 69 (0, 0)) := heap_alloc_new w _
  have ka : Kept [] w (w.alloc (.cells #[.int .i64 (N : Int), .slice (some ⟨b, 0, none⟩) 128 cap] 69)) := Kept.of_alloc _ _ _
  refine ⟨⟨(Array.getElem?_eq_some_iff.1 ha).1, fun j x hx => ?_⟩, ka⟩
  cases j with
  | zero =>
    simp at hx
    subst hx
    refine ⟨?_, ?_, row_range (hr.kept ka (by simp)), hl⟩
    · rw [cell_of_row _ _ _ _ _ (0, 0) ha]; rfl
    · rw [cell_of_row _ _ _ _ _ (0, 0) ha]; rfl
  | succ j => simp at hx
theorem one_good (n N : Nat) (l : List Int) (b cap : Nat) (h0 : 42 ≤ N) (h1 : N < n) : GoodPuts n [⟨N, l, b, 0, cap⟩] := by
  refine ⟨by simp, by simp, by simp; omega, fun i j x y hx hy hij => ?_⟩
  have h1 := (List.getElem?_eq_some_iff.1 hx).1
  have h2 := (List.getElem?_eq_some_iff.1 hy).1
  simp at h1 h2
  omega
theorem one_after (U : Nat → List Int) (N : Nat) (l : List Int) (b o cap : Nat) : afterPuts U [⟨N, l, b, o, cap⟩] N = l := by
  simp [afterPuts, userOps, nw]
theorem one_else (U : Nat → List Int) (N : Nat) (l : List Int) (b o cap k : Nat) (h : k ≠ N) : afterPuts U [⟨N, l, b, o, cap⟩] k = U k := by
  simp [afterPuts, userOps, nw, h]

/-- make([]byte, 128), by name. -/
theorem made (w : World) : ∃ W g, (Instr.makeSlice 31 (.int .i64 128) (.int .i64 128)).run Try.prog w = .ok (.slice (some ⟨g, 0, none⟩) 128 128) W ∧ Row W g zeros ∧ Kept [] w W ∧ w.heap.size ≤ g :=
  ⟨_, _, make_bytes w, heap_alloc_new w _, Kept.of_alloc _ _ _, Nat.le_refl _⟩

set_option maxHeartbeats 2000000 in
theorem known_any (w : World) : Calls Try.prog 24 #[] w fun e w' => e = .returned (.bool true) ∧ Kept [] w w' := by
  have cN := newDisk 60 (by decide) (by decide) w
  go_enter Try.func24, Try.ntmps24
  go_wp2_with fail
  refine cN.mono ?_
  rintro e w1 ⟨db, pb, mb, rfl, hD, hdb, hpb, hmb, k1⟩
  clear cN
  have cO := open_fresh hD (by decide)
  go_wp2_with fail
  refine cO.mono ?_
  rintro e w2 ⟨lb, rfl, hlb, W2, k2⟩
  clear cO hD
  have k02 := k1.trans k2
  obtain ⟨W0, g, hmk, r0, k0, hg0⟩ := made w2
  have c5 := row_cell r0 5 (by rw [zeros_sec.1]; decide)
  have f5 := row_frozen r0 5
  have r1 : Row (W0.setCell ⟨g, 5, none⟩ (.int .u8 9)) g (zeros.set 5 9) := by
    show (W0.setCell _ _).heap[g]? = _
    rw [heap_setCell_at _ r0, row_set]
  have k3 : Kept [] w2 (W0.setCell ⟨g, 5, none⟩ (.int .u8 9)) := k0.setCell_new hg0 _
  have hz : zeros.getD 5 0 = 0 := by simp [zeros]
  rw [hz] at c5
  generalize hW1 : W0.setCell ⟨g, 5, none⟩ (.int .u8 9) = W1 at r1 k3
  clear r0 hz k0
  have hl : Sec (zeros.set 5 9) := ⟨by rw [List.length_set]; exact zeros_sec.1, fun x hx => by
    rcases List.mem_or_eq_of_mem_set hx with hx | rfl
    · exact zeros_sec.2 x hx
    · omega⟩
  generalize zeros.set 5 9 = l at r1 hl
  obtain ⟨hp4, k4⟩ := one_put W1 50 g 128 l hl r1
  have W4 := W2.kept (k3.trans k4) (by simp) (by simp) (by simp) (by simp)
  have lts := W2.lts
  have hs3 := k3.size
  have cC := commit_works W4 (by decide) W1.heap.size 1 _ hp4 (by simp) (by simp; omega) (by simp; omega) (one_good 60 50 l g 128 (by decide) (by decide)) (by decide)
  go_wp2_with fail
  refine cC.mono ?_
  rintro e w5 ⟨rfl, W5, k5⟩
  clear cC hW1 hmk c5 f5
  have r4 := r1.kept k4 (by simp)
  have r5 := r4.kept k5 (by simp; omega)
  have k05 : Kept [] w w5 := (((k02.trans k3).trans k4).mono (by simp)).trans k5 |>.fewer (by have := k02.size; have := k1.size; simp; omega)
  clear hp4 W4 r4 r1 k4 k5 k3 W2
  have cO := open_works W5
  go_wp2_with fail
  refine cO.mono ?_
  rintro e w6 ⟨lc, rfl, hlc, W6, k6⟩
  clear cO W5
  have r6 := r5.kept k6 (by simp)
  have cR := read_works W6 50 (by decide) (by decide)
  rw [show (50 : Int).toNat = 50 from rfl, one_after] at cR
  go_wp2_with fail
  refine cR.mono ?_
  rintro e w7 ⟨gx, rfl, hgx, r7, _, W7, k7⟩
  clear cR
  have hlt := r5.lt
  have b7 := r6.kept k7 (by simp; omega)
  have cS := seq_works W7
  have t1 := text_conv w7 gx 128 128 l (row_range r7) hl.1
  have t2 := text_conv w7 g 128 128 l (row_range b7) hl.1
  have k07 : Kept [] w w7 := ((k05.trans k6).mono (by simp)).trans k7 |>.fewer (by have := k05.size; simp; omega)
  generalize textOf l = T at t1 t2
  clear W6 W7 r7 b7 r6 r5 k6 k7
  go_wp2_with fail
  refine cS.mono ?_
  rintro e w8 ⟨rfl, W8, k8⟩
  clear cS
  have k08 : Kept [] w w8 := (k07.mono (by simp)).trans k8 |>.fewer (by have := k05.size; simp; omega)
  go_wp2
  go_ret
  exact ⟨rfl, k08⟩
end Go.Proofs.Ytgjnlocokkjejaa
