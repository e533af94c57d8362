/-
  CpuSteps, walked in parts: the great condition.
-/
import Derived.Test.YtinibccphecdfaaWCpuStsA
import Derived.Test.YtinibccphecdfaaWCpuStR
namespace Go.Proofs.Ytinibccphecdfaa
open Go.RowKit
set_option maxRecDepth 8000
set_option linter.unusedSimpArgs false
set_option linter.unusedVariables false

theorem boolS_load (w : World) (y : Addr) (v : Value) (h : w.cell? y = some v) : (Instr.loadAt 4 (.pointer (some y))).run Try.prog w = .ok v w := by
  have h1 := Try.underlying4
  go_simp
theorem mem_sto {bm : Nat} {sl : Value} {b : Bool} {k o y n : Int} {W : World} (h : BlkL bm (memCs sl b k o y n) W) : CellsAt W ⟨bm, 1, none⟩ [.bool b, .int .i64 k, .int .i64 o, .int .i64 y] := fun j u hu => by
  have e : ∀ t, (⟨bm, 1, none⟩ : Addr).add t = ⟨bm, 1 + t, none⟩ := fun t => by
    unfold Addr.add
    split
    · rename_i h; rw [h]
    · rfl
  match j, hu with
  | 0, hu => rw [e]; exact (h.1 1 u hu).1
  | 1, hu => rw [e]; exact (h.1 2 u hu).1
  | 2, hu => rw [e]; exact (h.1 3 u hu).1
  | 3, hu => rw [e]; exact (h.1 4 u hu).1
def seqL : Code → Code
  | .seq a _ => a
  | c => c
set_option maxRecDepth 8000 in
set_option maxHeartbeats 8000000 in
theorem steps_r16 {u0 u1 u2 u3 u4 u5 u6 u7 u9 u21 u22 u23 u24 u25 u26 u27 u28 u29 u30 u31 u32 u33 u34 u35 u36 u37 u38 u39 u40 u41 u42 u43 u44 u45 u46 u47 u48 u49 u50 u51 u52 u53 u54 u55 u56 u57 u58 u59 u60 u61 u62 u63 u64 u65 u66 u67 u68 u69 u70 u71 u72 u73 u74 u75 u76 u77 u78 u79 u80 u81 u82 u83 u84 u85 u86 u87 u88 u89 u90 u91 u92 u93 u94 u95 u96 u97 u98 u99 u100 u101 u102 u103 u104 u105 u106 u107 u108 u109 u110 u111 u112 u113 u114 u115 u116 u117 u118 u119 u120 u121 u122 u123 u124 u125 u126 u127 u128 u129 u130 u131 u132 u133 u134 u135 u136 u137 u138 u139 u140 u141 u142 u143 u144 u145 u146 : Value} {Z : World} {bs bw bm bT bu bo : Nat} {d T : Cp} {v u vT vU sl : Value} {is9 : Bool} {s9 o9 y9 n9 Oe Ov : Int} {Otd : Bool} {Q : Exit → Act → World → Prop}
    (hss : StAt bs d v Z) (hsW : StAt bw d u Z) (hsT : StAt bT T vT Z) (hsU : StAt bu T vU Z) (hmZ : BlkL bm (memCs sl is9 s9 o9 y9 n9) Z) (hoZ : BlkL bo [.bool is9, .int .i64 s9, .int .i64 o9, .int .i64 y9] Z)
    (hvs : SV v d.st Z) (hvW : SV u d.st Z) (hvT : SV vT T.st Z) (hvU : SV vU T.st Z) (hd4 : d.ps.length = 4) (hT4 : T.ps.length = 4) (hdn : d.st.length ≤ 1000) (hTn : T.st.length ≤ 1000)
    (hn1 : decide (1 < n9) = false) (hn2 : (n9 == 1) = is9) (hQp : Aside (∀ ch (a : Act) d v w, Q (.panic ch) (a.put d v) w → Q (.panic ch) a w))
    (hQ : Aside (∀ (x67 x68 x69 x70 x71 x72 x73 x74 x75 x76 x77 x78 x79 x80 x81 x82 x83 x84 x85 x86 x87 x88 x89 x90 x91 x92 x93 x94 x95 x96 x97 x98 x99 x100 x101 x102 x103 x104 x105 x106 x107 x108 x109 x110 x111 x112 x113 x114 x115 x116 x117 : Value) (W' : World), Below Z.heap.size Z W' → Q .normal ⟨#[u0, u1, u2, u3, u4, u5, u6, u7, .pointer (some ⟨bs, 0, none⟩), u9, .pointer (some ⟨bw, 0, none⟩), .pointer (some ⟨bm, 0, none⟩), .pointer (some ⟨bT, 0, none⟩), .int .i64 Ov, .bool Otd, .int .i64 Oe, .pointer (some ⟨bu, 0, none⟩), .pointer (some ⟨bo, 0, none⟩), .int .i64 Ov, .bool Otd, .int .i64 Oe, u21, u22, u23, u24, u25, u26, u27, u28, u29, u30, u31, u32, u33, u34, u35, u36, u37, u38, u39, u40, u41, u42, u43, u44, u45, u46, u47, u48, u49, u50, u51, u52, u53, u54, u55, u56, u57, u58, u59, u60, u61, u62, u63, u64, u65, u66, x67, x68, x69, x70, x71, x72, x73, x74, x75, x76, x77, x78, x79, x80, x81, x82, x83, x84, x85, x86, x87, x88, x89, x90, x91, x92, x93, x94, x95, x96, x97, x98, x99, x100, x101, x102, x103, x104, x105, x106, x107, x108, x109, x110, x111, x112, x113, x114, x115, x116, x117, .bool false, u119, u120, u121, u122, u123, u124, u125, u126, u127, u128, u129, u130, u131, u132, u133, u134, u135, u136, u137, u138, u139, u140, u141, u142, u143, u144, u145, u146], []⟩ W')) :
    Code.wp Try.prog (seqL (codeAt 16 Try.f3)) Q ⟨#[u0, u1, u2, u3, u4, u5, u6, u7, .pointer (some ⟨bs, 0, none⟩), u9, .pointer (some ⟨bw, 0, none⟩), .pointer (some ⟨bm, 0, none⟩), .pointer (some ⟨bT, 0, none⟩), .int .i64 Ov, .bool Otd, .int .i64 Oe, .pointer (some ⟨bu, 0, none⟩), .pointer (some ⟨bo, 0, none⟩), .int .i64 Ov, .bool Otd, .int .i64 Oe, u21, u22, u23, u24, u25, u26, u27, u28, u29, u30, u31, u32, u33, u34, u35, u36, u37, u38, u39, u40, u41, u42, u43, u44, u45, u46, u47, u48, u49, u50, u51, u52, u53, u54, u55, u56, u57, u58, u59, u60, u61, u62, u63, u64, u65, u66, u67, u68, u69, u70, u71, u72, u73, u74, u75, u76, u77, u78, u79, u80, u81, u82, u83, u84, u85, u86, u87, u88, u89, u90, u91, u92, u93, u94, u95, u96, u97, u98, u99, u100, u101, u102, u103, u104, u105, u106, u107, u108, u109, u110, u111, u112, u113, u114, u115, u116, u117, u118, u119, u120, u121, u122, u123, u124, u125, u126, u127, u128, u129, u130, u131, u132, u133, u134, u135, u136, u137, u138, u139, u140, u141, u142, u143, u144, u145, u146], []⟩ Z := by
  have hundS := Try.underlying33
  have hundR := Try.underlying39
  have hundO := Try.underlying45
  have hszS : (Try.prog.info? 33).map (·.size) = some 18 := by kernel_rfl
  have hszR : (Try.prog.info? 39).map (·.size) = some 18 := by kernel_rfl
  have hszO : (Try.prog.info? 45).map (·.size) = some [Value.bool is9, .int .i64 s9, .int .i64 o9, .int .i64 y9].length := by kernel_rfl
  have hsz1 : (Try.prog.info? 33).map (·.size) = some (stCs T vT).length := by rw [st_len hT4]; exact hszS
  have hsz2 : (Try.prog.info? 39).map (·.size) = some (stCs T vU).length := by rw [st_len hT4]; exact hszR
  have hsz3 : (Try.prog.info? 33).map (·.size) = some (stCs d v).length := by rw [st_len hd4]; exact hszS
  have hsz4 : (Try.prog.info? 39).map (·.size) = some (stCs d u).length := by rw [st_len hd4]; exact hszR
  have kT := fun (W : World) (v : Value) (h : SV v T.st W) => cstateV T hT4 hTn v W h
  have kTm := fun (W : World) (v u : Value) (h : SV v T.st W) (h2 : SV u T.st W) => csameV T hT4 hTn v u W h h2
  have kd := fun (W : World) (v : Value) (h : SV v d.st W) => cstateV d hd4 hdn v W h
  have kdm := fun (W : World) (v u : Value) (h : SV v d.st W) (h2 : SV u d.st W) => csameV d hd4 hdn v u W h h2
  have hneq := run_neq_sto is9 s9 o9 y9
  clear hd4 hT4 hdn hTn
  conv => arg 2; whnf
  have hS0 := (Below.refl Z.heap.size Z).drew
  refine wp_region_held_drew (S := (fun W => Below Z.heap.size Z W)) (by kernel_rfl) (by exact hS0) ?_
  intro hHeld
  generalize Z.drew = w0 at *
  refine wpAnyH_take (i := 0) (v := ?_) (by simp only [gA, gB, gC]; rfl) (by kernel_rfl) (by kernel_rfl) (by kernel_rfl) (by exact fun c a w h => hQp.out c a _ _ w h) (Or.inl ⟨by rfl, ?_⟩) (by assumption) ?_; rotate_left; (focus (intro w hSw; (try dsimp only at hSw); go_simp; try with_reducible rfl)); (try simp only [Act.put, sA, sB, sC, hn1, hn2])
  refine wpAnyH_take (i := 1) (v := ?_) (by simp only [gA, gB, gC]; rfl) (by kernel_rfl) (by kernel_rfl) (by kernel_rfl) (by exact fun c a w h => hQp.out c a _ _ w h) (Or.inl ⟨by rfl, ?_⟩) (by assumption) ?_; rotate_left; (focus (intro w hSw; (try dsimp only at hSw); go_simp; try with_reducible rfl)); (try simp only [Act.put, sA, sB, sC, hn1, hn2])
  refine wpAnyH_take (i := 2) (v := ?_) (by simp only [gA, gB, gC]; rfl) (by kernel_rfl) (by kernel_rfl) (by kernel_rfl) (by exact fun c a w h => hQp.out c a _ _ w h) (Or.inl ⟨by rfl, ?_⟩) (by assumption) ?_; rotate_left; (focus (intro w hSw; (try dsimp only at hSw); go_simp; try with_reducible rfl)); (try simp only [Act.put, sA, sB, sC, hn1, hn2])
  refine wpAnyH_take (i := 3) (v := ?_) (by simp only [gA, gB, gC]; rfl) (by kernel_rfl) (by kernel_rfl) (by kernel_rfl) (by exact fun c a w h => hQp.out c a _ _ w h) (Or.inl ⟨by rfl, ?_⟩) (by assumption) ?_; rotate_left; (focus (intro w hSw; (try dsimp only at hSw); go_simp; try with_reducible rfl)); (try simp only [Act.put, sA, sB, sC, hn1, hn2])
  refine wpAnyH_take (i := 4) (v := ?_) (by simp only [gA, gB, gC]; rfl) (by kernel_rfl) (by kernel_rfl) (by kernel_rfl) (by exact fun c a w h => hQp.out c a _ _ w h) (Or.inl ⟨by rfl, ?_⟩) (by assumption) ?_; rotate_left; (focus (intro w hSw; (try dsimp only at hSw); go_simp; try with_reducible rfl)); (try simp only [Act.put, sA, sB, sC, hn1, hn2])
  refine wpAnyH_take (i := 5) (v := ?_) (by simp only [gA, gB, gC]; rfl) (by kernel_rfl) (by kernel_rfl) (by kernel_rfl) (by exact fun c a w h => hQp.out c a _ _ w h) (Or.inl ⟨by rfl, ?_⟩) (by assumption) ?_; rotate_left; (focus (intro w hSw; (try dsimp only at hSw); go_simp; try with_reducible rfl)); (try simp only [Act.put, sA, sB, sC, hn1, hn2])
  refine wpAnyH_take (i := 6) (v := ?_) (by simp only [gA, gB, gC]; rfl) (by kernel_rfl) (by kernel_rfl) (by kernel_rfl) (by exact fun c a w h => hQp.out c a _ _ w h) (Or.inl ⟨by rfl, ?_⟩) (by assumption) ?_; rotate_left; (focus (intro w hSw; (try dsimp only at hSw); go_simp; try with_reducible rfl)); (try simp only [Act.put, sA, sB, sC, hn1, hn2])
  refine wpAnyH_take (i := 7) (v := ?_) (by simp only [gA, gB, gC]; rfl) (by kernel_rfl) (by kernel_rfl) (by kernel_rfl) (by exact fun c a w h => hQp.out c a _ _ w h) (Or.inl ⟨by rfl, ?_⟩) (by assumption) ?_; rotate_left; (focus (intro w hSw; (try dsimp only at hSw); go_simp; try with_reducible rfl)); (try simp only [Act.put, sA, sB, sC, hn1, hn2])
  refine wpAnyH_take (i := 8) (v := ?_) (by simp only [gA, gB, gC]; rfl) (by kernel_rfl) (by kernel_rfl) (by kernel_rfl) (by exact fun c a w h => hQp.out c a _ _ w h) (Or.inl ⟨by rfl, ?_⟩) (by assumption) ?_; rotate_left; (focus (intro w hSw; (try dsimp only at hSw); go_simp; try with_reducible rfl)); (try simp only [Act.put, sA, sB, sC, hn1, hn2])
  refine wpAnyH_take (i := 9) (v := ?_) (by simp only [gA, gB, gC]; rfl) (by kernel_rfl) (by kernel_rfl) (by kernel_rfl) (by exact fun c a w h => hQp.out c a _ _ w h) (Or.inl ⟨by rfl, ?_⟩) (by assumption) ?_; rotate_left; (focus (intro w hSw; (try dsimp only at hSw); go_simp; try with_reducible rfl)); (try simp only [Act.put, sA, sB, sC, hn1, hn2])
  refine wpAnyH_take (i := 10) (v := ?_) (by simp only [gA, gB, gC]; rfl) (by kernel_rfl) (by kernel_rfl) (by kernel_rfl) (by exact fun c a w h => hQp.out c a _ _ w h) (Or.inl ⟨by rfl, ?_⟩) (by assumption) ?_; rotate_left; (focus (intro w hSw; (try dsimp only at hSw); go_simp; try with_reducible rfl)); (try simp only [Act.put, sA, sB, sC, hn1, hn2])
  refine wpAnyH_take (i := 11) (v := ?_) (by simp only [gA, gB, gC]; rfl) (by kernel_rfl) (by kernel_rfl) (by kernel_rfl) (by exact fun c a w h => hQp.out c a _ _ w h) (Or.inl ⟨by rfl, ?_⟩) (by assumption) ?_; rotate_left; (focus (intro w hSw; (try dsimp only at hSw); go_simp; try with_reducible rfl)); (try simp only [Act.put, sA, sB, sC, hn1, hn2])
  refine wpAnyH_take (i := 12) (v := ?_) (by simp only [gA, gB, gC]; rfl) (by kernel_rfl) (by kernel_rfl) (by kernel_rfl) (by exact fun c a w h => hQp.out c a _ _ w h) (Or.inl ⟨by rfl, ?_⟩) (by assumption) ?_; rotate_left; (focus (intro w hSw; (try dsimp only at hSw); go_simp; try with_reducible rfl)); (try simp only [Act.put, sA, sB, sC, hn1, hn2])
  refine wpAnyH_take (i := 13) (v := ?_) (by simp only [gA, gB, gC]; rfl) (by kernel_rfl) (by kernel_rfl) (by kernel_rfl) (by exact fun c a w h => hQp.out c a _ _ w h) (Or.inl ⟨by rfl, ?_⟩) (by assumption) ?_; rotate_left; (focus (intro w hSw; (try dsimp only at hSw); go_simp; try with_reducible rfl)); (try simp only [Act.put, sA, sB, sC, hn1, hn2])
  refine wpAnyH_take (i := 14) (v := _) (by simp only [gA, gB, gC]; rfl) (by kernel_rfl) (by kernel_rfl) (by kernel_rfl) (by exact fun c a w h => hQp.out c a _ _ w h) (yields_row (by rfl) _ rfl bT rfl (stCs T vT) (fun _ q => (hsT.keep q).blk.range) hundS rfl hsz1) (by assumption) ?_; (try simp only [Act.put, sA, sB, sC, hn1, hn2])
  refine wpAnyH_take (i := 16) (v := _) (by simp only [gA, gB, gC]; rfl) (by kernel_rfl) (by kernel_rfl) (by kernel_rfl) (by exact fun c a w h => hQp.out c a _ _ w h) (yields_row (by rfl) _ rfl bu rfl (stCs T vU) (fun _ q => (hsU.keep q).blk.range) hundR rfl hsz2) (by assumption) ?_; (try simp only [Act.put, sA, sB, sC, hn1, hn2])
  refine wpAnyH_ready (rs := [15]) (by kernel_rfl) (by simp) ?_
  refine AllReadyH.cons (by simp only [gA, gB, gC]; rfl) (fun K hK => ?_) AllReadyH.nil
  go_simp
  go_at_call 14
  refine (kT w0 vT (hvT.below hS0)).mono ?_
  rintro e w1 ⟨z1, rfl, hz1, hb⟩
  have hS1 := Below.then hS0 hb
  clear hb
  refine hK.out _ _ (by exact hS1) ?_
  clear hHeld hK
  intro hHeld
  (try simp only [Act.put, sA, sB, sC, hn1, hn2])
  refine wpAnyH_ready (rs := [17]) (by kernel_rfl) (by simp) ?_
  refine AllReadyH.cons (by simp only [gA, gB, gC]; rfl) (fun K hK => ?_) AllReadyH.nil
  go_simp
  go_at_call 13
  refine (kTm w1 z1 vU hz1 (hvU.below hS1)).mono ?_
  rintro e w2 ⟨rfl, hb⟩
  have hS2 := Below.then hS1 hb
  clear hz1
  clear hb
  refine hK.out _ _ (by exact hS2) ?_
  clear hHeld hK
  intro hHeld
  (try simp only [Act.put, sA, sB, sC, hn1, hn2])
  refine wpAnyH_take (i := 18) (v := ?_) (by simp only [gA, gB, gC]; rfl) (by kernel_rfl) (by kernel_rfl) (by kernel_rfl) (by exact fun c a w h => hQp.out c a _ _ w h) (Or.inl ⟨by rfl, ?_⟩) (by assumption) ?_; rotate_left; (focus (intro w hSw; (try dsimp only at hSw); go_simp; try with_reducible rfl)); (try simp only [Act.put, sA, sB, sC, hn1, hn2])
  refine wpAnyH_take (i := 19) (v := ?_) (by simp only [gA, gB, gC]; rfl) (by kernel_rfl) (by kernel_rfl) (by kernel_rfl) (by exact fun c a w h => hQp.out c a _ _ w h) (Or.inl ⟨by rfl, ?_⟩) (by assumption) ?_; rotate_left; (focus (intro w hSw; (try dsimp only at hSw); go_simp; try with_reducible rfl)); (try simp only [Act.put, sA, sB, sC, hn1, hn2])
  refine wpAnyH_take (i := 20) (v := ?_) (by simp only [gA, gB, gC]; rfl) (by kernel_rfl) (by kernel_rfl) (by kernel_rfl) (by exact fun c a w h => hQp.out c a _ _ w h) (Or.inl ⟨by rfl, ?_⟩) (by assumption) ?_; rotate_left; (focus (intro w hSw; (try dsimp only at hSw); go_simp; try with_reducible rfl)); (try simp only [Act.put, sA, sB, sC, hn1, hn2])
  refine wpAnyH_take (i := 21) (v := ?_) (by simp only [gA, gB, gC]; rfl) (by kernel_rfl) (by kernel_rfl) (by kernel_rfl) (by exact fun c a w h => hQp.out c a _ _ w h) (Or.inl ⟨by rfl, ?_⟩) (by assumption) ?_; rotate_left; (focus (intro w hSw; (try dsimp only at hSw); go_simp; try with_reducible rfl)); (try simp only [Act.put, sA, sB, sC, hn1, hn2])
  refine wpAnyH_take (i := 22) (v := ?_) (by simp only [gA, gB, gC]; rfl) (by kernel_rfl) (by kernel_rfl) (by kernel_rfl) (by exact fun c a w h => hQp.out c a _ _ w h) (Or.inl ⟨by rfl, ?_⟩) (by assumption) ?_; rotate_left; (focus (intro w hSw; (try dsimp only at hSw); go_simp; try with_reducible rfl)); (try simp only [Act.put, sA, sB, sC, hn1, hn2])
  refine wpAnyH_take (i := 23) (v := ?_) (by simp only [gA, gB, gC]; rfl) (by kernel_rfl) (by kernel_rfl) (by kernel_rfl) (by exact fun c a w h => hQp.out c a _ _ w h) (Or.inl ⟨by rfl, ?_⟩) (by assumption) ?_; rotate_left; (focus (intro w hSw; (try dsimp only at hSw); go_simp; try with_reducible rfl)); (try simp only [Act.put, sA, sB, sC, hn1, hn2])
  refine wpAnyH_take (i := 24) (v := _) (by simp only [gA, gB, gC]; rfl) (by kernel_rfl) (by kernel_rfl) (by kernel_rfl) (by exact fun c a w h => hQp.out c a _ _ w h) (yields_at (by rfl) _ rfl ⟨bm, 1, none⟩ rfl [.bool is9, .int .i64 s9, .int .i64 o9, .int .i64 y9] (fun _ q => mem_sto (stab_blk _ _ _ _ hmZ q)) hundO rfl hszO) (by assumption) ?_; (try simp only [Act.put, sA, sB, sC, hn1, hn2])
  refine wpAnyH_take (i := 25) (v := _) (by simp only [gA, gB, gC]; rfl) (by kernel_rfl) (by kernel_rfl) (by kernel_rfl) (by exact fun c a w h => hQp.out c a _ _ w h) (yields_row (by rfl) _ rfl bo rfl [.bool is9, .int .i64 s9, .int .i64 o9, .int .i64 y9] (fun _ q => (stab_blk _ _ _ _ hoZ q).range) hundO rfl hszO) (by assumption) ?_; (try simp only [Act.put, sA, sB, sC, hn1, hn2])
  refine wpAnyH_take (i := 26) (v := ?_) (by simp only [gA, gB, gC]; rfl) (by kernel_rfl) (by kernel_rfl) (by kernel_rfl) (by exact fun c a w h => hQp.out c a _ _ w h) (Or.inl ⟨by rfl, ?_⟩) (by assumption) ?_; rotate_left; (focus (intro w hSw; (try dsimp only at hSw); go_simp; try with_reducible rfl)); (try simp only [Act.put, sA, sB, sC, hn1, hn2])
  refine wpAnyH_take (i := 27) (v := ?_) (by simp only [gA, gB, gC]; rfl) (by kernel_rfl) (by kernel_rfl) (by kernel_rfl) (by exact fun c a w h => hQp.out c a _ _ w h) (Or.inl ⟨by rfl, ?_⟩) (by assumption) ?_; rotate_left; (focus (intro w hSw; (try dsimp only at hSw); go_simp; try with_reducible rfl)); (try simp only [Act.put, sA, sB, sC, hn1, hn2])
  refine wpAnyH_take (i := 28) (v := ?_) (by simp only [gA, gB, gC]; rfl) (by kernel_rfl) (by kernel_rfl) (by kernel_rfl) (by exact fun c a w h => hQp.out c a _ _ w h) (Or.inl ⟨by rfl, ?_⟩) (by assumption) ?_; rotate_left; (focus (intro w hSw; (try dsimp only at hSw); go_simp; try with_reducible rfl)); (try simp only [Act.put, sA, sB, sC, hn1, hn2])
  refine wpAnyH_take (i := 29) (v := ?_) (by simp only [gA, gB, gC]; rfl) (by kernel_rfl) (by kernel_rfl) (by kernel_rfl) (by exact fun c a w h => hQp.out c a _ _ w h) (Or.inl ⟨by rfl, ?_⟩) (by assumption) ?_; rotate_left; (focus (intro w hSw; (try dsimp only at hSw); go_simp; try with_reducible rfl)); (try simp only [Act.put, sA, sB, sC, hn1, hn2])
  refine wpAnyH_take (i := 30) (v := ?_) (by simp only [gA, gB, gC]; rfl) (by kernel_rfl) (by kernel_rfl) (by kernel_rfl) (by exact fun c a w h => hQp.out c a _ _ w h) (Or.inl ⟨by rfl, ?_⟩) (by assumption) ?_; rotate_left; (focus (intro w hSw; (try dsimp only at hSw); go_simp; try with_reducible rfl)); (try simp only [Act.put, sA, sB, sC, hn1, hn2])
  refine wpAnyH_take (i := 31) (v := ?_) (by simp only [gA, gB, gC]; rfl) (by kernel_rfl) (by kernel_rfl) (by kernel_rfl) (by exact fun c a w h => hQp.out c a _ _ w h) (Or.inl ⟨by rfl, ?_⟩) (by assumption) ?_; rotate_left; (focus (intro w hSw; (try dsimp only at hSw); go_simp; try with_reducible rfl)); (try simp only [Act.put, sA, sB, sC, hn1, hn2])
  refine wpAnyH_take (i := 32) (v := _) (by simp only [gA, gB, gC]; rfl) (by kernel_rfl) (by kernel_rfl) (by kernel_rfl) (by exact fun c a w h => hQp.out c a _ _ w h) (yields_cellI (by rfl) _ rfl ⟨bm, 5, none⟩ rfl (.int .i64 n9) (fun _ q => (q.cell (p := ⟨bm, 5, none⟩) hmZ.2).trans (hmZ.1 5 _ rfl).1) intI_load) (by assumption) ?_; (try simp only [Act.put, sA, sB, sC, hn1, hn2])
  refine wpAnyH_take (i := 33) (v := ?_) (by simp only [gA, gB, gC]; rfl) (by kernel_rfl) (by kernel_rfl) (by kernel_rfl) (by exact fun c a w h => hQp.out c a _ _ w h) (Or.inl ⟨by rfl, ?_⟩) (by assumption) ?_; rotate_left; (focus (intro w hSw; (try dsimp only at hSw); go_simp; try with_reducible rfl)); (try simp only [Act.put, sA, sB, sC, hn1, hn2])
  refine wpAnyH_take (i := 34) (v := ?_) (by simp only [gA, gB, gC]; rfl) (by kernel_rfl) (by kernel_rfl) (by kernel_rfl) (by exact fun c a w h => hQp.out c a _ _ w h) (Or.inl ⟨by rfl, ?_⟩) (by assumption) ?_; rotate_left; (focus (intro w hSw; (try dsimp only at hSw); go_simp; try with_reducible rfl)); (try simp only [Act.put, sA, sB, sC, hn1, hn2])
  refine wpAnyH_take (i := 35) (v := ?_) (by simp only [gA, gB, gC]; rfl) (by kernel_rfl) (by kernel_rfl) (by kernel_rfl) (by exact fun c a w h => hQp.out c a _ _ w h) (Or.inl ⟨by rfl, ?_⟩) (by assumption) ?_; rotate_left; (focus (intro w hSw; (try dsimp only at hSw); go_simp; try with_reducible rfl)); (try simp only [Act.put, sA, sB, sC, hn1, hn2])
  refine wpAnyH_take (i := 36) (v := ?_) (by simp only [gA, gB, gC]; rfl) (by kernel_rfl) (by kernel_rfl) (by kernel_rfl) (by exact fun c a w h => hQp.out c a _ _ w h) (Or.inl ⟨by rfl, ?_⟩) (by assumption) ?_; rotate_left; (focus (intro w hSw; (try dsimp only at hSw); go_simp; try with_reducible rfl)); (try simp only [Act.put, sA, sB, sC, hn1, hn2])
  refine wpAnyH_take (i := 37) (v := ?_) (by simp only [gA, gB, gC]; rfl) (by kernel_rfl) (by kernel_rfl) (by kernel_rfl) (by exact fun c a w h => hQp.out c a _ _ w h) (Or.inl ⟨by rfl, ?_⟩) (by assumption) ?_; rotate_left; (focus (intro w hSw; (try dsimp only at hSw); go_simp; try with_reducible rfl)); (try simp only [Act.put, sA, sB, sC, hn1, hn2])
  refine wpAnyH_take (i := 38) (v := ?_) (by simp only [gA, gB, gC]; rfl) (by kernel_rfl) (by kernel_rfl) (by kernel_rfl) (by exact fun c a w h => hQp.out c a _ _ w h) (Or.inl ⟨by rfl, ?_⟩) (by assumption) ?_; rotate_left; (focus (intro w hSw; (try dsimp only at hSw); go_simp; try with_reducible rfl)); (try simp only [Act.put, sA, sB, sC, hn1, hn2])
  refine wpAnyH_take (i := 39) (v := _) (by simp only [gA, gB, gC]; rfl) (by kernel_rfl) (by kernel_rfl) (by kernel_rfl) (by exact fun c a w h => hQp.out c a _ _ w h) (yields_cellI (by rfl) _ rfl ⟨bm, 5, none⟩ rfl (.int .i64 n9) (fun _ q => (q.cell (p := ⟨bm, 5, none⟩) hmZ.2).trans (hmZ.1 5 _ rfl).1) intI_load) (by assumption) ?_; (try simp only [Act.put, sA, sB, sC, hn1, hn2])
  refine wpAnyH_take (i := 40) (v := ?_) (by simp only [gA, gB, gC]; rfl) (by kernel_rfl) (by kernel_rfl) (by kernel_rfl) (by exact fun c a w h => hQp.out c a _ _ w h) (Or.inl ⟨by rfl, ?_⟩) (by assumption) ?_; rotate_left; (focus (intro w hSw; (try dsimp only at hSw); go_simp; try with_reducible rfl)); (try simp only [Act.put, sA, sB, sC, hn1, hn2])
  refine wpAnyH_take (i := 41) (v := ?_) (by simp only [gA, gB, gC]; rfl) (by kernel_rfl) (by kernel_rfl) (by kernel_rfl) (by exact fun c a w h => hQp.out c a _ _ w h) (Or.inl ⟨by rfl, ?_⟩) (by assumption) ?_; rotate_left; (focus (intro w hSw; (try dsimp only at hSw); go_simp; try with_reducible rfl)); (try simp only [Act.put, sA, sB, sC, hn1, hn2])
  refine wpAnyH_take (i := 42) (v := _) (by simp only [gA, gB, gC]; rfl) (by kernel_rfl) (by kernel_rfl) (by kernel_rfl) (by exact fun c a w h => hQp.out c a _ _ w h) (yields_cellI (by rfl) _ rfl ⟨bo, 0, none⟩ rfl (.bool is9) (fun _ q => (q.cell (p := ⟨bo, 0, none⟩) hoZ.2).trans (hoZ.1 0 _ rfl).1) boolS_load) (by assumption) ?_; (try simp only [Act.put, sA, sB, sC, hn1, hn2])
  refine wpAnyH_take (i := 43) (v := ?_) (by simp only [gA, gB, gC]; rfl) (by kernel_rfl) (by kernel_rfl) (by kernel_rfl) (by exact fun c a w h => hQp.out c a _ _ w h) (Or.inl ⟨by rfl, ?_⟩) (by assumption) ?_; rotate_left; (focus (intro w hSw; (try dsimp only at hSw); go_simp; try with_reducible rfl)); (try simp only [Act.put, sA, sB, sC, hn1, hn2])
  refine wpAnyH_take (i := 44) (v := ?_) (by simp only [gA, gB, gC]; rfl) (by kernel_rfl) (by kernel_rfl) (by kernel_rfl) (by exact fun c a w h => hQp.out c a _ _ w h) (Or.inl ⟨by rfl, ?_⟩) (by assumption) ?_; rotate_left; (focus (intro w hSw; (try dsimp only at hSw); go_simp; try with_reducible rfl)); (try simp only [Act.put, sA, sB, sC, hn1, hn2])
  refine wpAnyH_take (i := 45) (v := ?_) (by simp only [gA, gB, gC]; rfl) (by kernel_rfl) (by kernel_rfl) (by kernel_rfl) (by exact fun c a w h => hQp.out c a _ _ w h) (Or.inl ⟨by rfl, ?_⟩) (by assumption) ?_; rotate_left; (focus (intro w hSw; (try dsimp only at hSw); go_simp; try with_reducible rfl)); (try simp only [Act.put, sA, sB, sC, hn1, hn2])
  refine wpAnyH_take (i := 46) (v := _) (by simp only [gA, gB, gC]; rfl) (by kernel_rfl) (by kernel_rfl) (by kernel_rfl) (by exact fun c a w h => hQp.out c a _ _ w h) (yields_row (by rfl) _ rfl bs rfl (stCs d v) (fun _ q => (hss.keep q).blk.range) hundS rfl hsz3) (by assumption) ?_; (try simp only [Act.put, sA, sB, sC, hn1, hn2])
  refine wpAnyH_take (i := 48) (v := _) (by simp only [gA, gB, gC]; rfl) (by kernel_rfl) (by kernel_rfl) (by kernel_rfl) (by exact fun c a w h => hQp.out c a _ _ w h) (yields_row (by rfl) _ rfl bw rfl (stCs d u) (fun _ q => (hsW.keep q).blk.range) hundR rfl hsz4) (by assumption) ?_; (try simp only [Act.put, sA, sB, sC, hn1, hn2])
  refine wpAnyH_ready (rs := [47]) (by kernel_rfl) (by simp) ?_
  refine AllReadyH.cons (by simp only [gA, gB, gC]; rfl) (fun K hK => ?_) AllReadyH.nil
  go_simp
  go_at_call 14
  refine (kd w2 v (hvs.below hS2)).mono ?_
  rintro e w3 ⟨z2, rfl, hz2, hb⟩
  have hS3 := Below.then hS2 hb
  clear hb
  refine hK.out _ _ (by exact hS3) ?_
  clear hHeld hK
  intro hHeld
  (try simp only [Act.put, sA, sB, sC, hn1, hn2])
  refine wpAnyH_ready (rs := [49]) (by kernel_rfl) (by simp) ?_
  refine AllReadyH.cons (by simp only [gA, gB, gC]; rfl) (fun K hK => ?_) AllReadyH.nil
  go_simp
  go_at_call 13
  refine (kdm w3 z2 u hz2 (hvW.below hS3)).mono ?_
  rintro e w4 ⟨rfl, hb⟩
  have hS4 := Below.then hS3 hb
  clear hz2
  clear hb
  refine hK.out _ _ (by exact hS4) ?_
  clear hHeld hK
  intro hHeld
  (try simp only [Act.put, sA, sB, sC, hn1, hn2])
  refine wpAnyH_take (i := 50) (v := ?_) (by simp only [gA, gB, gC]; rfl) (by kernel_rfl) (by kernel_rfl) (by kernel_rfl) (by exact fun c a w h => hQp.out c a _ _ w h) (Or.inl ⟨by rfl, ?_⟩) (by assumption) ?_; rotate_left; (focus (intro w hSw; (try dsimp only at hSw); go_simp; try with_reducible rfl)); (try simp only [Act.put, sA, sB, sC, hn1, hn2])
  refine wpAnyH_take (i := 51) (v := ?_) (by simp only [gA, gB, gC]; rfl) (by kernel_rfl) (by kernel_rfl) (by kernel_rfl) (by exact fun c a w h => hQp.out c a _ _ w h) (Or.inl ⟨by rfl, ?_⟩) (by assumption) ?_; rotate_left; (focus (intro w hSw; (try dsimp only at hSw); go_simp; try with_reducible rfl)); (try simp only [Act.put, sA, sB, sC, hn1, hn2])
  refine wpAnyH_done (by kernel_rfl) ?_ _
  exact hQ.out _ _ _ _ _ _ _ _ _ _ _ _ _ _ _ _ _ _ _ _ _ _ _ _ _ _ _ _ _ _ _ _ _ _ _ _ _ _ _ _ _ _ _ _ _ _ _ _ _ _ _ _ (by assumption)
end Go.Proofs.Ytinibccphecdfaa
