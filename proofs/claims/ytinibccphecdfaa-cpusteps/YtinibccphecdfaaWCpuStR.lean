/-
  THE DOCUMENT'S OWN PROCESSOR (donjonref16): a step: the end of a return.
-/
import Derived.Test.YtinibccphecdfaaWCpuStH
namespace Go.Proofs.Ytinibccphecdfaa
open Go.RowKit
set_option maxRecDepth 8000
set_option linter.unusedSimpArgs false
set_option linter.unusedVariables false

/-- A row that is copied by append onto an empty one. -/
structure AppR (W : World) (u vs : Value) (W' : World) : Prop where
  run : (Builtin.append_ #[37, 37] 37 #[.slice (some ⟨W.heap.size, 0, none⟩) 0 0, u]).run Try.prog (W.alloc (.cells #[] 85)) = .ok vs W'
theorem wpList_appR {ops : Array Oper} {o : Oper} {rest : List Oper} {Q : Exit → Act → World → Prop} {a : Act} {W W' : World} {u vs : Value} (x y : Operand) (h : AppR W u vs W') (hg : o.guard = none) (ho : o.op = .call { callee := .builtin .append, args := #[x, y], argTypes := #[37, 37] }) (hty : o.type = 37) (hx : a.eval x = .slice (some ⟨W.heap.size, 0, none⟩) 0 0) (hy : a.eval y = u)
    (k : wpList Try.prog ops Q rest (a.put o.dst vs) W') : wpList Try.prog ops Q (o :: rest) a (W.alloc (.cells #[] 85)) := wpList_append hg x y ho hty hx hy h.run k
/-- A code from a region on. -/
def isReg (n : Nat) : Code → Bool
  | .region m _ _ => m == n
  | _ => false
def fromReg (n : Nat) : Code → Option Code
  | .seq a b => if isReg n a then some (.seq a b) else match fromReg n a with
    | some c => some c
    | none => fromReg n b
  | .cond _ a b => match fromReg n a with
    | some c => some c
    | none => fromReg n b
  | .block _ c => fromReg n c
  | .loop c => fromReg n c
  | .scope c => fromReg n c
  | _ => none
def codeAt (n : Nat) (f : Func) : Code := (f.body.bind (fromReg n)).getD .skip
set_option maxRecDepth 8000 in
set_option maxHeartbeats 8000000 in
theorem ret_tail {u0 u1 u3 u4 u5 u6 u7 u8 u9 u10 u12 u13 u14 u15 u16 u17 u18 u19 u20 u21 u22 u24 u25 u26 u27 u28 u29 u30 u31 u32 u33 u34 u35 u36 u37 u38 u39 u40 u41 u42 u43 u44 u45 u46 u47 u48 u49 u50 u51 u52 u53 u54 u55 u56 u57 u58 u59 u60 u61 u62 u63 u64 u65 u66 u67 u68 u69 u70 u71 u72 u73 u74 u75 u76 u77 u78 u79 u80 u81 u82 u83 u84 u85 u86 u87 u88 u89 u90 u91 u92 u93 u94 u95 u96 u97 u98 u99 u100 u101 u102 u103 u104 u105 u106 u107 u108 u109 u110 u111 u112 u113 u114 u115 u116 u117 u118 u119 u120 u121 u122 u123 u124 u125 u126 u127 u128 u129 u130 u131 u132 u133 u134 u135 u136 u137 u138 u139 u140 u141 u142 u143 u144 u145 u146 u147 u148 u149 u150 u151 u152 u153 u154 u155 u156 u157 u158 u159 u160 u161 u162 u163 u164 u165 u166 u167 u168 u169 u170 u171 u172 u173 u174 u175 u176 u177 u178 u179 u180 u181 u182 u183 u184 u185 u186 u187 u188 u189 u190 u191 u192 u193 u194 u195 u196 u197 u198 u199 u200 u201 u202 u203 u204 u205 u206 u207 u208 u209 u210 u211 u212 u213 u214 u215 u216 u217 u218 u219 u220 u221 u222 u223 u224 u225 u226 u227 u228 u229 u230 u231 u232 u233 u234 u235 u236 u237 u238 u239 u240 u241 u242 u243 u244 u245 u246 u247 u248 u249 u250 u251 u252 u253 u254 u255 u256 u257 u258 u259 u260 u261 u262 u263 u264 u265 u266 u267 u268 u269 u270 u271 u272 u273 u274 u275 u276 u277 u278 u279 u280 u281 u282 u283 u284 u285 u286 u287 u288 u289 u290 u291 u292 u293 u294 u295 u296 u297 u298 u299 u300 u301 u302 u303 u304 u305 u306 u307 u308 u309 u310 u311 u312 u313 u314 u315 u316 u317 u318 u319 u320 u321 u322 u323 u324 u325 u326 u327 u328 u329 u330 u331 u332 u333 u334 u335 : Value} {W9 : World} {bs bt bf : Nat} {y1 : Addr} {nn c1 n0 : Nat} {d : Cp} {v : Value} {fr : Fr} {l : List Fr} {Q : Exit → Act → World → Prop}
    (h4 : d.ps.length = 4) (x16 : W9.cell? ⟨bs, 16, none⟩ = some (.slice (some y1) nn c1)) (ht : StAt bt d v W9) (hf : BlkL bf (frc fr) W9) (hne : bf ≠ bt) (hn : n0 + 1 = nn) (hn8 : nn ≤ 8) (hc : nn ≤ c1) (hrk : RowAt 3 frc W9 (some y1) l) (hlk : l.length = n0)
    (hQ : Aside (∀ (x312 x313 x314 x315 x316 x317 x318 x319 x320 x321 x322 x323 x324 x325 us : Value) (W' : World), OwnR 85 3 frc W' W9.heap.size us l → StAt bt (raiseC d fr.r) us W' → Sole bt W9 W' → Q .normal ⟨#[u0, u1, .pointer (some ⟨bs, 0, none⟩), u3, u4, u5, u6, u7, u8, u9, u10, .pointer (some ⟨bt, 0, none⟩), u12, u13, u14, u15, u16, u17, u18, u19, u20, u21, u22, .pointer (some ⟨bf, 0, none⟩), u24, u25, u26, u27, u28, u29, u30, u31, u32, u33, u34, u35, u36, u37, u38, u39, u40, u41, u42, u43, u44, u45, u46, u47, u48, u49, u50, u51, u52, u53, u54, u55, u56, u57, u58, u59, u60, u61, u62, u63, u64, u65, u66, u67, u68, u69, u70, u71, u72, u73, u74, u75, u76, u77, u78, u79, u80, u81, u82, u83, u84, u85, u86, u87, u88, u89, u90, u91, u92, u93, u94, u95, u96, u97, u98, u99, u100, u101, u102, u103, u104, u105, u106, u107, u108, u109, u110, u111, u112, u113, u114, u115, u116, u117, u118, u119, u120, u121, u122, u123, u124, u125, u126, u127, u128, u129, u130, u131, u132, u133, u134, u135, u136, u137, u138, u139, u140, u141, u142, u143, u144, u145, u146, u147, u148, u149, u150, u151, u152, u153, u154, u155, u156, u157, u158, u159, u160, u161, u162, u163, u164, u165, u166, u167, u168, u169, u170, u171, u172, u173, u174, u175, u176, u177, u178, u179, u180, u181, u182, u183, u184, u185, u186, u187, u188, u189, u190, u191, u192, u193, u194, u195, u196, u197, u198, u199, u200, u201, u202, u203, u204, u205, u206, u207, u208, u209, u210, u211, u212, u213, u214, u215, u216, u217, u218, u219, u220, u221, u222, u223, u224, u225, u226, u227, u228, u229, u230, u231, u232, u233, u234, u235, u236, u237, u238, u239, u240, u241, u242, u243, u244, u245, u246, u247, u248, u249, u250, u251, u252, u253, u254, u255, u256, u257, u258, u259, u260, u261, u262, u263, u264, u265, u266, u267, u268, u269, u270, u271, u272, u273, u274, u275, u276, u277, u278, u279, u280, u281, u282, u283, u284, u285, u286, u287, u288, u289, u290, u291, u292, u293, u294, u295, u296, u297, u298, u299, u300, u301, u302, u303, u304, u305, u306, u307, u308, u309, u310, u311, x312, x313, x314, x315, x316, x317, x318, x319, x320, x321, x322, x323, x324, x325, u326, u327, u328, u329, u330, u331, u332, u333, u334, u335], []⟩ W')) :
    Code.wp Try.prog (codeAt 62 Try.f18) Q ⟨#[u0, u1, .pointer (some ⟨bs, 0, none⟩), u3, u4, u5, u6, u7, u8, u9, u10, .pointer (some ⟨bt, 0, none⟩), u12, u13, u14, u15, u16, u17, u18, u19, u20, u21, u22, .pointer (some ⟨bf, 0, none⟩), u24, u25, u26, u27, u28, u29, u30, u31, u32, u33, u34, u35, u36, u37, u38, u39, u40, u41, u42, u43, u44, u45, u46, u47, u48, u49, u50, u51, u52, u53, u54, u55, u56, u57, u58, u59, u60, u61, u62, u63, u64, u65, u66, u67, u68, u69, u70, u71, u72, u73, u74, u75, u76, u77, u78, u79, u80, u81, u82, u83, u84, u85, u86, u87, u88, u89, u90, u91, u92, u93, u94, u95, u96, u97, u98, u99, u100, u101, u102, u103, u104, u105, u106, u107, u108, u109, u110, u111, u112, u113, u114, u115, u116, u117, u118, u119, u120, u121, u122, u123, u124, u125, u126, u127, u128, u129, u130, u131, u132, u133, u134, u135, u136, u137, u138, u139, u140, u141, u142, u143, u144, u145, u146, u147, u148, u149, u150, u151, u152, u153, u154, u155, u156, u157, u158, u159, u160, u161, u162, u163, u164, u165, u166, u167, u168, u169, u170, u171, u172, u173, u174, u175, u176, u177, u178, u179, u180, u181, u182, u183, u184, u185, u186, u187, u188, u189, u190, u191, u192, u193, u194, u195, u196, u197, u198, u199, u200, u201, u202, u203, u204, u205, u206, u207, u208, u209, u210, u211, u212, u213, u214, u215, u216, u217, u218, u219, u220, u221, u222, u223, u224, u225, u226, u227, u228, u229, u230, u231, u232, u233, u234, u235, u236, u237, u238, u239, u240, u241, u242, u243, u244, u245, u246, u247, u248, u249, u250, u251, u252, u253, u254, u255, u256, u257, u258, u259, u260, u261, u262, u263, u264, u265, u266, u267, u268, u269, u270, u271, u272, u273, u274, u275, u276, u277, u278, u279, u280, u281, u282, u283, u284, u285, u286, u287, u288, u289, u290, u291, u292, u293, u294, u295, u296, u297, u298, u299, u300, u301, u302, u303, u304, u305, u306, u307, u308, u309, u310, u311, u312, u313, u314, u315, u316, u317, u318, u319, u320, u321, u322, u323, u324, u325, u326, u327, u328, u329, u330, u331, u332, u333, u334, u335], []⟩ W9 := by
  have hundS := Try.underlying39
  have hszS : (Try.prog.info? 39).map (·.size) = some 18 := by kernel_rfl
  obtain ⟨u0, c2, hu0, hsl⟩ := slice_shortR y1 nn c1 n0 (by omega) hc
  obtain ⟨vs, W10, hap, hoS, hb10⟩ := wasW_run fr_ok hrk hlk (c := c2) (fun q => nomatch q) (by omega)
  rw [← hu0] at hap
  replace hap : AppR W9 u0 vs W10 := ⟨hap⟩
  obtain ⟨sa9, sc9, hvs2, -, -, -⟩ := hoS.slice frc_len
  rw [hlk] at hvs2
  have hal := alloc_below W9 (.cells #[] 85)
  have x16a := (hal.cell (p := ⟨bs, 16, none⟩) (World.block_lt_of_cell? _ _ x16)).trans x16
  have ht10 := ht.keep hb10
  have hst10 := ht10.blk.1 16 v (st_stk ht10.ps)
  have y16 := hst10.1
  have y16f := hst10.2
  have hf10 := stab_blk _ _ _ _ hf hb10
  have ht11 := ht10.setStk vs
  have so10 : Sole bt W9 W10 := Sole.of hb10
  have so11 := so10.set 16 vs
  have hgt := ht.blk.2
  have ho11 := (Sole.set (bx := bt) (w := W10) ⟨rfl, rfl, rfl, Nat.le_refl _, fun _ _ _ => rfl⟩ 16 vs).own hoS (fun q => by have := (hoS.lt q).1; omega)
  have hf11 := (Sole.set (bx := bt) (w := W10) ⟨rfl, rfl, rfl, Nat.le_refl _, fun _ _ _ => rfl⟩ 16 vs).blk hf10 hne
  subst hvs2
  have hw2 : IntKind.i64.wrap ((nn : Int) - 1) = (n0 : Int) := by rw [IntKind.wrap_i64]; omega
  have hw3 : (nn : Int) - 1 = (n0 : Int) := by omega
  clear hrk hal ht hst10 hoS hb10 ht10 hf10 so10 hu0 x16 hlk hn hf
  conv => arg 2; whnf
  go_upto_region 63 with (first | (refine wpList_build0W fr_ok rfl rfl ?_) | (refine wpList_appR (.tmp 312) (.tmp 319) hap rfl rfl rfl rfl rfl ?_) | fail)
  clear hap x16a y16 y16f hsl hw2 hw3
  generalize W10.setCell ⟨bt, 16, none⟩ (.slice sa9 n0 sc9) = W11 at *
  obtain ⟨us, hus⟩ : ∃ us, Value.slice sa9 n0 sc9 = us := ⟨_, rfl⟩
  rw [hus] at ht11 ho11
  clear hus
  have hone := (SV.ownA ho11).one
  have krs := fun W : World => rraise_any d us h4 hone fr.r W
  have hrt := ht11.blk.range
  have hlt : (stCs d us).length = 18 := st_len h4
  obtain ⟨YR, hYR⟩ : ∃ Y, stCs d us = Y := ⟨_, rfl⟩
  rw [hYR] at hrt hlt
  simp only [hYR] at krs
  have hszR : (Try.prog.info? 39).map (·.size) = some YR.length := by rw [hlt]; exact hszS
  have xf2 := (hf11.1 2 (.int .i64 fr.r) rfl).1
  clear hYR hlt
  go_wp2_with (first | (refine wpList_load_row rfl (.tmp 11) rfl bt rfl YR hrt hundS rfl hszR ?_) | fail)
  refine (krs W11).mono ?_
  rintro e W12 ⟨rfl, hb12⟩
  have hD4 : (raiseC d fr.r).ps.length = 4 := by show (raiseC _ _).ps.length = 4; simpa [raiseC] using h4
  obtain ⟨W13, hW13, hth13, ht13, hk13⟩ := put_st (ht11.keep hb12) (d := raiseC d fr.r) hD4 us
  have so12 : Sole bt W11 W12 := Sole.of hb12
  have so13 : Sole bt W12 W13 := by rw [← hW13]; exact Sole.cells ⟨rfl, rfl, rfl, Nat.le_refl _, fun _ _ _ => rfl⟩ (.inl rfl) _ _
  have ho13 := so13.own (ho11.below hb12) (fun q => by have := (ho11.lt q).1; omega)
  have so := (so11.trans so12).trans so13
  have honeD := st_one (raiseC d fr.r) us hone
  have hszD : (Try.prog.info? 39).map (·.size) = some (stCs (raiseC d fr.r) us).length := by rw [st_len hD4]; exact hszS
  obtain ⟨YD, hYD⟩ : ∃ Y, stCs (raiseC d fr.r) us = Y := ⟨_, rfl⟩
  rw [hYD] at hW13 hth13 honeD hszD ⊢
  clear hYD hk13 so11 so12 so13 ho11 ht11 krs hrt
  go_wp2_with (first | (refine wpList_store_row rfl (.tmp 11) _ rfl bt rfl YD rfl hth13 hszD honeD hW13 ?_) | fail)
  exact hQ.out _ _ _ _ _ _ _ _ _ _ _ _ _ _ us W13 ho13 ht13 so
end Go.Proofs.Ytinibccphecdfaa
