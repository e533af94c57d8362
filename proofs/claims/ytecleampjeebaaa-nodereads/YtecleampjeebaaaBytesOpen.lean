/-
  BYTES THAT CAME IN (for the stages from the tenth on; stage 8 has HashOpen).
-/
import Derived.Test.YtecleampjeebaaaOpens
import Derived.Test.YtecleampjeebaaaHashBase
import Derived.ProofKit
import Derived.OpenShut
import Derived.ChangeSlices
import Derived.SizedLaws
namespace Go.Proofs.Ytecleampjeebaaa
open Go.ChangeShapes Go.WideShapes Go.ChangeAt Go.RowKit
set_option linter.unusedVariables false
set_option linter.unusedSimpArgs false

theorem u8_bytes : Try.prog.bytesOf 5 = 1 := by kernel_rfl
/-- Bytes that came in. -/
theorem open_bytes {H : Type} {enc : TypeId × Value → H} {W : World} {fuel : Nat} {a : Option Addr} {len cap : Nat} {d : DataW H} {p : List MemPlace} (h : DataW.trod enc Try.prog W 0 (fun _ => true) true fuel 34 [.slice a len cap] = some (d, p)) :
    ∃ l, BytesAt W a len l ∧ (a = none → cap = 0) ∧ len ≤ cap ∧ ((d = .nil ∧ cap = 0) ∨ ∃ elems spare, d = .slice elems spare ∧ elems.length + spare.length = cap) := by
  rcases open_ints Try.underlying34 Try.underlying5 (by kernel_rfl) h with ⟨hcs, hd⟩ | ⟨x, l, c, zs, hcs, _, hl, hm, hz, hx, hcell, hwz⟩
  · simp at hcs
    obtain ⟨rfl, rfl, rfl⟩ := hcs
    simp only [Prod.mk.injEq] at hd
    exact ⟨[], ⟨rfl, fun j hj => absurd hj (by omega)⟩, fun _ => rfl, Nat.le_refl _, .inl ⟨hd.1, rfl⟩⟩
  · simp at hcs
    obtain ⟨rfl, rfl, rfl⟩ := hcs
    have hzl : zs.length = cap := by simpa using hz
    simp only [Prod.mk.injEq] at hx
    refine ⟨(zs.take len).map fun z => UInt8.ofNat z.toNat, ⟨by rw [List.length_map, List.length_take]; omega, fun j hj => ⟨x, rfl, ?_⟩⟩, fun e => (by cases e), hl, .inr ⟨_, _, hx.1, ?_⟩⟩
    · rw [hcell j (by omega)]
      have hjz : j < zs.length := by omega
      obtain ⟨k, hk, hk2⟩ := nat_u8 (hwz zs[j] (List.getElem_mem hjz))
      have e1 : zs.getD j 0 = zs[j] := by rw [List.getD_eq_getElem?_getD, List.getElem?_eq_getElem hjz]; rfl
      have e2 : ((zs.take len).map fun z => UInt8.ofNat z.toNat).getD j 0 = UInt8.ofNat zs[j].toNat := by
        rw [List.getD_eq_getElem?_getD, List.getElem?_map, List.getElem?_take, if_pos hj, List.getElem?_eq_getElem hjz]
        rfl
      rw [e1, e2, hk, Int.toNat_natCast, UInt8.toNat_ofNat', Nat.mod_eq_of_lt (by omega)]
    · simp only [lits, List.length_map, List.length_take, List.length_drop]
      omega
theorem bytes_bound {H : Type} {ts : List TypeId} {ds : List (DataW H)} {d : DataW H} {cap : Nat} (hsz : (DataW.weightsEach Try.prog ts ds).all (· ≤ reachBytes) = true) {j : Nat} (ht : ts[j]? = some 34) (hd : ds[j]? = some d) (h : (d = .nil ∧ cap = 0) ∨ ∃ elems spare, d = .slice elems spare ∧ elems.length + spare.length = cap) : cap ≤ 140737488355328 := by
  rcases h with ⟨_, h⟩ | ⟨el, sp, rfl, hcap⟩
  · omega
  · have hsl := sized_slice hsz ht hd Try.underlying34
    rw [u8_bytes] at hsl
    have := reachBytes_lt
    omega
end Go.Proofs.Ytecleampjeebaaa
