/-
  THE DOCUMENT'S OWN PROCESSOR (donjonref16): a step, whole.
-/
import Derived.Test.YtinibccphecdfaaWCpuSt_ar1
import Derived.Test.YtinibccphecdfaaWCpuSt_ar1E
import Derived.Test.YtinibccphecdfaaWCpuSt_ar4
import Derived.Test.YtinibccphecdfaaWCpuSt_ar4E
import Derived.Test.YtinibccphecdfaaWCpuSt_call
import Derived.Test.YtinibccphecdfaaWCpuSt_callE
import Derived.Test.YtinibccphecdfaaWCpuSt_enc
import Derived.Test.YtinibccphecdfaaWCpuSt_fetE
import Derived.Test.YtinibccphecdfaaWCpuSt_fromint
import Derived.Test.YtinibccphecdfaaWCpuSt_halt
import Derived.Test.YtinibccphecdfaaWCpuSt_halted
import Derived.Test.YtinibccphecdfaaWCpuSt_jmp
import Derived.Test.YtinibccphecdfaaWCpuSt_jn
import Derived.Test.YtinibccphecdfaaWCpuSt_jz
import Derived.Test.YtinibccphecdfaaWCpuSt_ldi
import Derived.Test.YtinibccphecdfaaWCpuSt_ldp
import Derived.Test.YtinibccphecdfaaWCpuSt_ldpE
import Derived.Test.YtinibccphecdfaaWCpuSt_nn
import Derived.Test.YtinibccphecdfaaWCpuSt_nz
import Derived.Test.YtinibccphecdfaaWCpuSt_out
import Derived.Test.YtinibccphecdfaaWCpuSt_ret
import Derived.Test.YtinibccphecdfaaWCpuSt_retG
import Derived.Test.YtinibccphecdfaaWCpuSt_retN
import Derived.Test.YtinibccphecdfaaWCpuSt_setp
import Derived.Test.YtinibccphecdfaaWCpuSt_toint
import Derived.Test.YtinibccphecdfaaWCpuSt_tointE
import Derived.Test.YtinibccphecdfaaWCpuSt_wrHi
import Derived.Test.YtinibccphecdfaaWCpuSt_wrIs
import Derived.Test.YtinibccphecdfaaWCpuSt_wrLo
import Derived.Test.YtinibccphecdfaaWCpuSt_wrMay
import Derived.Test.YtinibccphecdfaaWCpuSt_wrMd
import Derived.Test.YtinibccphecdfaaWCpuSt_wrOk
namespace Go.Proofs.Ytinibccphecdfaa
open Go.RowKit
set_option maxRecDepth 8000
set_option linter.unusedSimpArgs false
set_option linter.unusedVariables false

theorem rstep_any (c : Cp) (hc : c.Ok) (v : Value) (m : List PG) (a : Option Addr) (cap : Nat) (hMG : MG m) (w : World) (hv : SV v c.st w) (hG : RowG w a m) (hvc : ∀ a2 n2 c2, v = .slice a2 n2 c2 → n2 ≤ c2) :
    Calls Try.prog 18 #[.agg (stCs c v).toArray, .slice a m.length cap] w (StR (stepC c (m.map (·.g))) w) := by
  cases hl : c.hl with
  | true => exact rst_halted c hc hl v m a cap hMG w hv hG
  | false =>
  by_cases hf : fetE c (m.map (·.g)) = 0
  rotate_left
  · exact rst_fetE c hc hl v m a cap hMG w hv hG hf
  obtain ⟨i, hi⟩ : ∃ i, fetI c (m.map (·.g)) = i := ⟨_, rfl⟩
  have hok : ∀ g ∈ m.map (·.g), g.Ok := fun g hg => by obtain ⟨x, hx, rfl⟩ := List.mem_map.1 hg; exact hMG.ok x hx
  have hie : insE i = 0 := by rw [← hi]; exact fet_ok hok hf
  obtain ⟨⟨o0, o1⟩, -⟩ := insE_zero.1 hie
  have hcases : i.o = 0 ∨ i.o = 1 ∨ i.o = 2 ∨ i.o = 3 ∨ (4 ≤ i.o ∧ i.o ≤ 11) ∨ i.o = 12 ∨ i.o = 13 ∨ i.o = 14 ∨ i.o = 15 ∨ i.o = 16 ∨ i.o = 17 ∨ i.o = 18 ∨ i.o = 19 ∨ i.o = 20 ∨ i.o = 21 ∨ i.o = 22 := by omega
  rcases hcases with ho | ho | ho | ho | ho | ho | ho | ho | ho | ho | ho | ho | ho | ho | ho | ho
  · exact rst_halt c hc hl v m a cap hMG w hv hG hf i hi ho
  · by_cases hj : rdE c (m.map (·.g)) i = 0
    · exact rst_ar1 c hc hl v m a cap hMG w hv hG hf i hi ho hj
    · exact rst_ar1E c hc hl v m a cap hMG w hv hG hf i hi ho hj
  · cases his : (mSeg c (m.map (·.g)) i).is with
    | false => exact rst_wrIs c hc hl v m a cap hMG w hv hG hf i hi ho his
    | true =>
    cases hmd : hasM (mSeg c (m.map (·.g)) i).md 2 with
    | false => exact rst_wrMd c hc hl v m a cap hMG w hv hG hf i hi ho his hmd
    | true =>
    cases hmy : mayW (mSeg c (m.map (·.g)) i).rg (mRing c i) with
    | false => exact rst_wrMay c hc hl v m a cap hMG w hv hG hf i hi ho his hmd hmy
    | true =>
    by_cases hlo : mOff c i < 0
    · exact rst_wrLo c hc hl v m a cap hMG w hv hG hf i hi ho his hmd hmy hlo
    by_cases hhi : ((mSeg c (m.map (·.g)) i).ws.length : Int) ≤ mOff c i
    · exact rst_wrHi c hc hl v m a cap hMG w hv hG hf i hi ho his hmd hmy hlo hhi
    · exact rst_wrOk c hc hl v m a cap hMG w hv hG hf i hi ho his hmd hmy hlo hhi
  · exact rst_ldi c hc hl v m a cap hMG w hv hG hf i hi ho
  · by_cases hj : rdE c (m.map (·.g)) i = 0
    · exact rst_ar4 c hc hl v m a cap hMG w hv hG hf i hi ho hj
    · exact rst_ar4E c hc hl v m a cap hMG w hv hG hf i hi ho hj
  · exact rst_fromint c hc hl v m a cap hMG w hv hG hf i hi ho
  · by_cases hj : toE c.a = 0
    · exact rst_toint c hc hl v m a cap hMG w hv hG hf i hi ho hj
    · exact rst_tointE c hc hl v m a cap hMG w hv hG hf i hi ho hj
  · exact rst_jmp c hc hl v m a cap hMG w hv hG hf i hi ho
  · by_cases hj : c.a = 0
    · exact rst_jz c hc hl v m a cap hMG w hv hG hf i hi ho hj
    · exact rst_nz c hc hl v m a cap hMG w hv hG hf i hi ho hj
  · by_cases hj : c.a < 0
    · exact rst_jn c hc hl v m a cap hMG w hv hG hf i hi ho hj
    · exact rst_nn c hc hl v m a cap hMG w hv hG hf i hi ho hj
  · exact rst_setp c hc hl v m a cap hMG w hv hG hf i hi ho
  · by_cases hj : rdE c (m.map (·.g)) i = 0
    · exact rst_ldp c hc hl v m a cap hMG w hv hG hf i hi ho hj
    · exact rst_ldpE c hc hl v m a cap hMG w hv hG hf i hi ho hj
  · exact rst_enc c hc hl v m a cap hMG w hv hG hf i hi ho
  · by_cases hj : clE c (m.map (·.g)) i = 0
    · exact rst_call c hc hl v m a cap hMG w hv hG hf i hi ho hj
    · exact rst_callE c hc hl v m a cap hMG w hv hG hf i hi ho hj
  · by_cases hj : c.st.length = 0
    · exact rst_retN c hc hl v m a cap hMG w hv hG hf i hi ho hj
    by_cases hrr : (lastF c).r < c.ring
    · exact rst_retG c hc hl v m a cap hMG w hv hG hf i hi ho hj hrr
    · exact rst_ret c hc hl v m a cap hMG w hv hG hf i hi ho hj hrr hvc
  · exact rst_out c hc hl v m a cap hMG w hv hG hf i hi ho
end Go.Proofs.Ytinibccphecdfaa
