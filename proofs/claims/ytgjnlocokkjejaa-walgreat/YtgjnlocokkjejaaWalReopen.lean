/-
  OPENED ANEW BEHIND A CRASH: a log that works, with the state that the platter has, at rest or due.
-/
import Derived.Test.YtgjnlocokkjejaaWalSafe
namespace Go.Proofs.Ytgjnlocokkjejaa
open Go.RowKit Go.Maps

theorem le_top (l : List Int) (hl : Sec l) (h7 : l.getD 7 0 < 128) : le (l.take 8) < 9223372036854775808 := by
  have h1 := take_step l 7 (by rw [hl.1]; decide)
  have h2 := le_hi (l.take 7) (fun x hx => hl.2 x (List.mem_of_mem_take hx))
  rw [show (l.take 7).length = 7 by simp [hl.1]] at h2
  have e : (2 : Int) ^ (8 * 7) = 72057594037927936 := by decide
  rw [e] at h1 h2
  show le (l.take (7 + 1)) < _
  omega

section
variable {w : World} {db pb mb n B : Nat} {V : Nat → List Int} {t : Int}
theorem IdleP.on {p : Nat → List Int} {σ : Dsk} (h : IdleP n p V t) (h0 : σ.newest 0 = p 0) (a : 0 ≤ t) (b : t < 900000) : IdleOn σ t :=
  ⟨by rw [h0]; exact h.state, by rw [h0, h.seq, le_enc8 t a (by omega)], a, by omega⟩
theorem reopen {p : Nat → List Int} (h : DiskIs w db pb mb n B (risen p)) (hn : 42 < n) (hB : B < 500000) (ha : 0 ≤ t) (hb : t < 900000) (hp : IdleP n p V t ∨ ∃ m, DueP n p V t m) :
    Calls Try.prog 25 #[.pointer (some ⟨db, 0, none⟩)] w fun e w' => ∃ lb, e = .returned (.tuple #[.pointer (some ⟨lb, 0, none⟩), .int .i64 0]) ∧ w.heap.size ≤ lb ∧ Works w' lb db pb mb n (B + 43) V t ∧ Kept [db, pb, mb] w w' := by
  have hnew : ∀ k, (risen p).newest k = p k := fun k => rfl
  rcases hp with hp | ⟨m, hp⟩
  · have hI : IdleOn (risen p) t := hp.on rfl ha hb
    refine (open_idle h rfl hn hI).mono ?_
    rintro e w' ⟨lb, rfl, hl, hL, hk⟩
    exact ⟨lb, rfl, hl, ⟨⟨risen p, t, hL.mono (by omega), rfl, rfl, hI, fun k h1 h2 => hp.user k h1 h2⟩, hn⟩, hk.mono (by simp)⟩
  · have hs0 := h.sec 0 (by omega)
    have hD : DueOn (risen p) n m := ⟨hp.state, le_top _ hs0 hp.top, hp.count, hp.few, by
      show le ((p 1).take 8) < _
      rw [hp.seq, le_enc8 t ha (by omega)]; omega, hp.nums⟩
    obtain ⟨t1, t2, t3, t4⟩ := tail_safe (σ := risen p) rfl hp hs0.1 ha (by omega)
    have hlive := run_live (dueOps (risen p) ((risen p).newest 1) m) (σ := risen p) rfl
    obtain ⟨⟨σ1, ok⟩, hr⟩ : ∃ x, (risen p).run (dueOps (risen p) ((risen p).newest 1) m) = x := ⟨_, rfl⟩
    rw [hr] at hlive
    obtain ⟨rfl, hl0⟩ : ok = true ∧ σ1.left = 0 := hlive
    have hσ := run_all _ hr
    rw [← hσ] at t2 t3
    have hle : le (((risen p).newest 1).take 8) = t := by rw [hnew, hp.seq, le_enc8 t ha (by omega)]
    have hn1 : ∀ k, σ1.newest k = σ1.pl k := fun k => by simp [Dsk.newest, t2]
    refine (open_due_ok h rfl hn (by omega) hD hr).mono ?_
    rintro e w' ⟨lb, rfl, hl, hL, hk⟩
    exact ⟨lb, rfl, hl, ⟨⟨σ1, _, hL, (Dsk.run_alive _ hr), hl0, t3.on (hn1 0) ha hb, fun k h1 h2 => by rw [hn1]; exact t3.user k h1 h2⟩, hn⟩, hk⟩
end
end Go.Proofs.Ytgjnlocokkjejaa
