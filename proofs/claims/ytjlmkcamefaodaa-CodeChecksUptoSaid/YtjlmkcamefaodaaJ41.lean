/-
  Joined: RLb.
-/
import Derived.Test.YtjlmkcamefaodaaJ40
/-! RLb: The blocks of a function: the loop of the document's Fun by itself. -/

namespace Go.Proofs.Ytjlmkcamefaodaa
open Go Go.RowKit Go.Maps Go.Sort Cd Fl

set_option maxRecDepth 1000000 in
set_option maxHeartbeats 6400000 in
theorem block_loop (Q0 : Exit → Act → World → Prop) (w W1 w4 : World) (c : CodeP) (f : FunP) (b2 b3 bg bo n bc gc2 : Nat) (fa sa : Option Addr) (g1 : Addr) (F fc T sc : Nat) (pr vr vl mn : Int) (c0 c1 c5 c6 c7 c8 c9 c14 c28 c31 c33 c34 c35 c36 c37 c38 c39 c40 c41 c42 c43 c44 c45 c46 c47 c48 c49 c50 c51 c52 c53 c54 c55 c56 c57 c58 c59 c60 c61 c62 c63 c64 c65 c66 c67 c68 c69 c70 c71 c72 c73 c74 c75 c76 c77 c78 c79 c80 c81 c82 c83 c84 c85 c86 c87 c88 c89 c90 c91 c92 c93 c94 c95 c96 c97 c98 c99 c100 c101 c102 c103 c104 c105 c106 c107 c108 c109 c110 c111 c112 c113 c114 c115 c116 c117 c118 c119 c120 c121 c122 c123 c124 c125 c126 c127 c128 c129 c130 c131 c132 u4 u12 u13 u15 u16 u17 u18 u19 u20 u21 u22 u23 u24 u25 u26 u27 u29 u30 u32 u136 u137 u138 u139 u140 u141 u142 u143 u144 u145 u146 u147 u148 u149 u150 u151 u152 u153 u154 u155 u156 u157 u158 u159 u160 u161 u162 u163 u164 u165 u166 u167 u168 u169 u170 u171 u172 u173 u174 u175 u176 u177 u178 u179 u180 u181 u182 u183 u184 u185 u186 u187 u188 u189 u190 u191 u192 u193 u194 u195 u196 u197 u198 u199 u200 u201 u202 u203 u204 u205 u206 u207 u208 u209 u210 u211 u212 u213 u214 u215 u216 u217 u218 u219 u220 u221 u222 u223 u224 u225 u226 u227 u228 u229 u230 u231 u232 u233 u234 u235 u236 u237 u238 u239 u240 u241 u242 u243 u244 u245 u246 u247 u248 u249 u250 u251 u252 u253 u254 u255 u256 u257 u258 u259 u260 u261 u262 u263 u264 u265 u266 u267 u268 u269 u270 u271 u272 u273 u274 u275 u276 u277 u278 u279 u280 u281 u282 u283 u284 u285 u286 u287 u288 u289 u290 u291 u292 u293 u294 u295 u296 u297 u298 u299 u300 u301 u302 u303 u304 u305 u306 u307 u308 u309 u310 u311 u312 u313 u314 u315 u316 u317 u318 u319 u320 u321 u322 u323 u324 u325 u326 u327 u328 u329 u330 u331 u332 u333 u334 u335 u336 u337 u338 u339 u340 u341 u342 u343 u344 u345 u346 u347 u348 u349 u350 u351 u352 u353 u354 u355 u356 u357 u358 u359 u360 u361 u362 u363 u364 u365 u366 u367 u368 u369 u370 u371 u372 u373 u374 u375 u376 u377 u378 u379 u380 u381 u382 u383 u384 u385 u386 u387 u388 u389 u390 u391 u392 u393 u394 u395 u396 u397 u398 u399 u400 u401 u402 u403 u404 u405 u406 u407 u408 u409 u410 u411 u412 u413 u414 u415 u416 u417 u418 u419 u420 u421 u422 u423 u424 u425 u426 u427 u428 u429 u430 u431 u432 u433 u434 u435 u436 : Value)
    (HH : Hid (n = f.blocks.length ∧ F = c.funs.length ∧ T = c.stops.length ∧ SmC c ∧ SmF f ∧ f.blocks.length ≤ 150 ∧ Below w.heap.size w W1))
    (HP : Hid (f.params = pr ∧ f.vars = vr ∧ f.vals = vl ∧ c.main = mn))
    (HK : Hid (FK b2 b3 fa sa (some g1) F fc T sc n bc c f W1))
    (HM : Hid (∀ (v : Int) (W : World), Below W1.heap.size W1 W → Calls Try.prog 34 #[.agg #[I pr, I vr, I vl, .slice (some g1) n bc], I v] W fun e w' => MadeT f v W e w'))
    (HY : Hid (∀ (bo dc : Nat) (v : Int) (hb : Nat) (_ : hb < n) (ha : Int) (W : World), Below W1.heap.size W1 W → DomK bo f W → Calls Try.prog 35 #[.agg #[I pr, I vr, I vl, .slice (some g1) n bc], .slice (some ⟨bo, 0, none⟩) n dc, I v, .agg #[I (hb : Int), I ha]] W fun e w' => TellB (RMay f v hb ha) W e w'))
    (H4 : Hid (Below W1.heap.size W1 w4 ∧ DomK bo f w4 ∧ IntoR bg f w4))
    (HNO : Hid (¬ RFun c f → ∀ W', Below W1.heap.size W1 W' → TellB (RFun c f) w (.returned (.bool false)) W'))
    (HRT : Hid (∀ (a : Act) (W' : World), a.tmps[4]? = some (.bool false) → a.defers = [] → TellB (RFun c f) w (.returned (.bool false)) W' → Q0 .ret a W'))
    (HEX : Hid (∀ (u4 u12 u13 u15 u16 u17 u18 u19 u20 u21 u22 u23 u24 u25 u26 u27 u29 u30 u32 u136 u137 u138 u139 u140 u141 u142 u143 u144 u145 u146 u147 u148 u149 u150 u151 u152 u153 u154 u155 u156 u157 u158 u159 u160 u161 u162 u163 u164 u165 u166 u167 u168 u169 u170 u171 u172 u173 u174 u175 u176 u177 u178 u179 u180 u181 u182 u183 u184 u185 u186 u187 u188 u189 u190 u191 u192 u193 u194 u195 u196 u197 u198 u199 u200 u201 u202 u203 u204 u205 u206 u207 u208 u209 u210 u211 u212 u213 u214 u215 u216 u217 u218 u219 u220 u221 u222 u223 u224 u225 u226 u227 u228 u229 u230 u231 u232 u233 u234 u235 u236 u237 u238 u239 u240 u241 u242 u243 u244 u245 u246 u247 u248 u249 u250 u251 u252 u253 u254 u255 u256 u257 u258 u259 u260 u261 u262 u263 u264 u265 u266 u267 u268 u269 u270 u271 u272 u273 u274 u275 u276 u277 u278 u279 u280 u281 u282 u283 u284 u285 u286 u287 u288 u289 u290 u291 u292 u293 u294 u295 u296 u297 u298 u299 u300 u301 u302 u303 u304 u305 u306 u307 u308 u309 u310 u311 u312 u313 u314 u315 u316 u317 u318 u319 u320 u321 u322 u323 u324 u325 u326 u327 u328 u329 u330 u331 u332 u333 u334 u335 u336 u337 u338 u339 u340 u341 u342 u343 u344 u345 u346 u347 u348 u349 u350 u351 u352 u353 u354 u355 u356 u357 u358 u359 u360 u361 u362 u363 u364 u365 u366 u367 u368 u369 u370 u371 u372 u373 u374 u375 u376 u377 u378 u379 u380 u381 u382 u383 u384 u385 u386 u387 u388 u389 u390 u391 u392 u393 u394 u395 u396 u397 u398 u399 u400 u401 u402 u403 u404 u405 u406 u407 u408 u409 u410 u411 u412 u413 u414 u415 u416 u417 u418 u419 u420 u421 u422 u423 u424 u425 u426 u427 u428 u429 u430 u431 u432 u433 u434 u435 u436 : Value) (W' : World), (∀ j (h : j < f.blocks.length), RBlk c f j f.blocks[j]) → Below w4.heap.size w4 W' → Q0 (.exit 4) ⟨#[c0, c1, Value.pointer (some ⟨b2, 0, none⟩), Value.pointer (some ⟨b3, 0, none⟩), u4, c5, c6, c7, c8, c9, Value.slice (some ⟨bg, 0, none⟩) n gc2, Value.slice (some ⟨bo, 0, none⟩) n n, u12, u13, c14, u15, u16, u17, u18, u19, u20, u21, u22, u23, u24, u25, u26, u27, c28, u29, u30, c31, u32, c33, c34, c35, c36, c37, c38, c39, c40, c41, c42, c43, c44, c45, c46, c47, c48, c49, c50, c51, c52, c53, c54, c55, c56, c57, c58, c59, c60, c61, c62, c63, c64, c65, c66, c67, c68, c69, c70, c71, c72, c73, c74, c75, c76, c77, c78, c79, c80, c81, c82, c83, c84, c85, c86, c87, c88, c89, c90, c91, c92, c93, c94, c95, c96, c97, c98, c99, c100, c101, c102, c103, c104, c105, c106, c107, c108, c109, c110, c111, c112, c113, c114, c115, c116, c117, c118, c119, c120, c121, c122, c123, c124, c125, c126, c127, c128, c129, c130, c131, c132, Value.slice (some g1) n bc, I (n : Int), I (n : Int), u136, u137, u138, u139, u140, u141, u142, u143, u144, u145, u146, u147, u148, u149, u150, u151, u152, u153, u154, u155, u156, u157, u158, u159, u160, u161, u162, u163, u164, u165, u166, u167, u168, u169, u170, u171, u172, u173, u174, u175, u176, u177, u178, u179, u180, u181, u182, u183, u184, u185, u186, u187, u188, u189, u190, u191, u192, u193, u194, u195, u196, u197, u198, u199, u200, u201, u202, u203, u204, u205, u206, u207, u208, u209, u210, u211, u212, u213, u214, u215, u216, u217, u218, u219, u220, u221, u222, u223, u224, u225, u226, u227, u228, u229, u230, u231, u232, u233, u234, u235, u236, u237, u238, u239, u240, u241, u242, u243, u244, u245, u246, u247, u248, u249, u250, u251, u252, u253, u254, u255, u256, u257, u258, u259, u260, u261, u262, u263, u264, u265, u266, u267, u268, u269, u270, u271, u272, u273, u274, u275, u276, u277, u278, u279, u280, u281, u282, u283, u284, u285, u286, u287, u288, u289, u290, u291, u292, u293, u294, u295, u296, u297, u298, u299, u300, u301, u302, u303, u304, u305, u306, u307, u308, u309, u310, u311, u312, u313, u314, u315, u316, u317, u318, u319, u320, u321, u322, u323, u324, u325, u326, u327, u328, u329, u330, u331, u332, u333, u334, u335, u336, u337, u338, u339, u340, u341, u342, u343, u344, u345, u346, u347, u348, u349, u350, u351, u352, u353, u354, u355, u356, u357, u358, u359, u360, u361, u362, u363, u364, u365, u366, u367, u368, u369, u370, u371, u372, u373, u374, u375, u376, u377, u378, u379, u380, u381, u382, u383, u384, u385, u386, u387, u388, u389, u390, u391, u392, u393, u394, u395, u396, u397, u398, u399, u400, u401, u402, u403, u404, u405, u406, u407, u408, u409, u410, u411, u412, u413, u414, u415, u416, u417, u418, u419, u420, u421, u422, u423, u424, u425, u426, u427, u428, u429, u430, u431, u432, u433, u434, u435, u436], []⟩ W'))
    (hnb : (n : Int) ≤ 150) (hFb : (F : Int) ≤ 1000000) (hTb : (T : Int) ≤ 1000000) :
    Code.wp Try.prog (Code.loop (funBody 2)) Q0 ⟨#[c0, c1, Value.pointer (some ⟨b2, 0, none⟩), Value.pointer (some ⟨b3, 0, none⟩), u4, c5, c6, c7, c8, c9, Value.slice (some ⟨bg, 0, none⟩) n gc2, Value.slice (some ⟨bo, 0, none⟩) n n, u12, u13, c14, u15, u16, u17, u18, u19, u20, u21, u22, u23, u24, u25, u26, u27, c28, u29, u30, c31, u32, c33, c34, c35, c36, c37, c38, c39, c40, c41, c42, c43, c44, c45, c46, c47, c48, c49, c50, c51, c52, c53, c54, c55, c56, c57, c58, c59, c60, c61, c62, c63, c64, c65, c66, c67, c68, c69, c70, c71, c72, c73, c74, c75, c76, c77, c78, c79, c80, c81, c82, c83, c84, c85, c86, c87, c88, c89, c90, c91, c92, c93, c94, c95, c96, c97, c98, c99, c100, c101, c102, c103, c104, c105, c106, c107, c108, c109, c110, c111, c112, c113, c114, c115, c116, c117, c118, c119, c120, c121, c122, c123, c124, c125, c126, c127, c128, c129, c130, c131, c132, Value.slice (some g1) n bc, I (n : Int), I 0, u136, u137, u138, u139, u140, u141, u142, u143, u144, u145, u146, u147, u148, u149, u150, u151, u152, u153, u154, u155, u156, u157, u158, u159, u160, u161, u162, u163, u164, u165, u166, u167, u168, u169, u170, u171, u172, u173, u174, u175, u176, u177, u178, u179, u180, u181, u182, u183, u184, u185, u186, u187, u188, u189, u190, u191, u192, u193, u194, u195, u196, u197, u198, u199, u200, u201, u202, u203, u204, u205, u206, u207, u208, u209, u210, u211, u212, u213, u214, u215, u216, u217, u218, u219, u220, u221, u222, u223, u224, u225, u226, u227, u228, u229, u230, u231, u232, u233, u234, u235, u236, u237, u238, u239, u240, u241, u242, u243, u244, u245, u246, u247, u248, u249, u250, u251, u252, u253, u254, u255, u256, u257, u258, u259, u260, u261, u262, u263, u264, u265, u266, u267, u268, u269, u270, u271, u272, u273, u274, u275, u276, u277, u278, u279, u280, u281, u282, u283, u284, u285, u286, u287, u288, u289, u290, u291, u292, u293, u294, u295, u296, u297, u298, u299, u300, u301, u302, u303, u304, u305, u306, u307, u308, u309, u310, u311, u312, u313, u314, u315, u316, u317, u318, u319, u320, u321, u322, u323, u324, u325, u326, u327, u328, u329, u330, u331, u332, u333, u334, u335, u336, u337, u338, u339, u340, u341, u342, u343, u344, u345, u346, u347, u348, u349, u350, u351, u352, u353, u354, u355, u356, u357, u358, u359, u360, u361, u362, u363, u364, u365, u366, u367, u368, u369, u370, u371, u372, u373, u374, u375, u376, u377, u378, u379, u380, u381, u382, u383, u384, u385, u386, u387, u388, u389, u390, u391, u392, u393, u394, u395, u396, u397, u398, u399, u400, u401, u402, u403, u404, u405, u406, u407, u408, u409, u410, u411, u412, u413, u414, u415, u416, u417, u418, u419, u420, u421, u422, u423, u424, u425, u426, u427, u428, u429, u430, u431, u432, u433, u434, u435, u436], []⟩ w4 := by
  have HS3 := Lib.hid (show RF3 w4 c f (I 0) w4 from ⟨0, Nat.zero_le _, rfl, fun j _ h => absurd h (by omega), Below.refl _ _⟩)
  conv => arg 2; arg 1; whnf
  dsimp only
  go_loopw [135] (fun iv W => RF3 w4 c f iv W) (fun iv _ => n - (intOf iv).toNat)
  case atStart => exact HS3.out
  case round =>
    obtain ⟨i, hi, rfl, hbs, hb0⟩ := hrel
    clear HS3
    by_cases hin : i < n
    · have il : i < f.blocks.length := by have := HH.out.1; omega
      have hk := (HK.out.below H4.out.1).below hb0
      obtain ⟨g2, _, e1, gl, cw, pv, iv, rfl, hpz, hiz⟩ := hk.bb.at i il
      cases e1
      obtain ⟨x, hx⟩ : ∃ x, x = f.blocks[i] := ⟨_, rfl⟩
      rw [← hx] at cw hpz hiz
      obtain ⟨pa, pc, hpv⟩ := hpz.size
      obtain ⟨ia, ic, hiv⟩ := hiz.size
      obtain ⟨PL, hP⟩ : ∃ P, P = x.phis.length := ⟨_, rfl⟩
      obtain ⟨J, hJ⟩ : ∃ J, J = x.insts.length := ⟨_, rfl⟩
      subst hpv hiv
      rw [← hP] at hpz
      rw [← hJ] at hiz
      have hcnt : cB f i + (PL + J) ≤ 900000 := by
        have h1 := cB_succ f il
        have h2 := cB_mono f (show i + 1 ≤ f.blocks.length from il)
        have h3 := HH.out.2.2.2.2.1.cb
        rw [← hx, ← hP, ← hJ] at h1
        omega
      have hPb : (PL : Int) ≤ 1000000 := by omega
      have hJb : (J : Int) ≤ 1000000 := by omega
      rw [← hP, ← hJ] at cw
      obtain ⟨fin, arg, tt, els, hyy⟩ : ∃ fin arg tt els, x.fin = fin ∧ x.arg = arg ∧ x.to = tt ∧ x.els = els := ⟨_, _, _, _, rfl, rfl, rfl, rfl⟩
      rw [hyy.1, hyy.2.1, hyy.2.2.1, hyy.2.2.2] at cw
      have c0 := cw.f0
      have c1 := cw.f1
      have c2 := cw.f2
      have c3 := cw.f3
      have c4 := cw.f4
      have c5 := cw.f5
      obtain ⟨W5, hW5⟩ : ∃ W, W = wr.alloc (.cells #[.slice pa PL pc, .slice ia J ic, U8 fin, I arg, I tt, I els] 40) := ⟨_, rfl⟩
      obtain ⟨b5, hb5⟩ : ∃ b, b = wr.heap.size := ⟨_, rfl⟩
      have hB5 : Below wr.heap.size wr W5 := by rw [hW5]; exact (Below.refl _ _).alloc (Nat.le_refl _) _
      have k5 : Blk b5 #[.slice pa PL pc, .slice ia J ic, U8 fin, I arg, I tt, I els] 40 W5 := by rw [hW5, hb5]; exact Blk.new _ _ _
      have y0 := k5.get 0 (.slice pa PL pc) rfl
      have hpz5 : SlS (LtW W5) 6 InstV W5 (.slice pa PL pc) x.phis := hpz.below instV_stays hB5
      have hiz5 : SlS (LtW W5) 6 InstV W5 (.slice ia J ic) x.insts := hiz.below instV_stays hB5
      have HB45 := Lib.hid (below_tr hb0 hB5)
      have hsm := HH.out.2.2.2.2.1.ins i il
      rw [← hx] at hsm
      have H5 := Lib.hid (And.intro (below_tr H4.out.1 HB45.out) (And.intro (H4.out.2.1.below HB45.out) (And.intro (H4.out.2.2.below HB45.out) (And.intro k5 (And.intro hpz5 (And.intro hiz5 hsm))))))
      have HX := Lib.hid (And.intro hx (And.intro hP (And.intro hJ (And.intro hbs (And.intro hin (And.intro hyy (And.intro il hcnt)))))))
      have HSM := Lib.hid (show (∀ y ∈ x.phis, SmI y) ∧ (∀ y ∈ x.insts, SmI y) from ⟨fun y hy => H5.out.2.2.2.2.2.2.1 y hy, fun y hy => H5.out.2.2.2.2.2.2.2.1 y hy⟩)
      have HNB := Lib.hid (show ¬ RBlk c f i x → ∀ W', Below W5.heap.size W5 W' → TellB (RFun c f) w (.returned (.bool false)) W' from fun hno W' hW' => HNO.out (fun h => hno (by rw [hx]; exact h.2.2.2.2.2.2 i il)) W' (below_tr (below_tr H4.out.1 HB45.out) hW'))
      have HW5 := Lib.hid (And.intro hW5 hb5)
      have d0 : decide (i < n) = true := by simpa using hin
      have d1 : (0 : Int) ≤ (i : Int) := by omega
      have d2 : (i : Int) < (n : Int) := by omega
      have d3 : (i : Int) ≤ 1000000 := by omega
      clear hk hbs hb0 gl cw hpz hiz hx hP hJ hcnt hyy hW5 hb5 hB5 k5 hpz5 hiz5 hin hi hsm
      go_upto_region 27 with (fail)
      rw [← HW5.out.2]
      change Code.wp _ _ _ _ (wr.alloc (.cells #[.slice pa PL pc, .slice ia J ic, U8 fin, I arg, I tt, I els] 40))
      rw [← HW5.out.1]
      clear c0 c1 c2 c3 c4 c5
      go_wp2_with fail
      clear y0
      refine phi_loop _ w W1 W5 c f x b2 b3 b5 bg bo n bc gc2 i PL pa fa sa g1 pc F fc T sc pr vr vl mn _ _ _ _ _ _ _ _ _ _ _ _ _ _ _ _ _ _ _ _ _ _ _ _ _ _ _ _ _ _ _ _ _ _ _ _ _ _ _ _ _ _ _ _ _ _ _ _ _ _ _ _ _ _ _ _ _ _ _ _ _ _ _ _ _ _ _ _ _ _ _ _ _ _ _ _ _ _ _ _ _ _ _ _ _ _ _ _ _ _ _ _ _ _ _ _ _ _ _ _ _ _ _ _ _ _ _ _ _ _ _ _ _ _ _ _ _ _ _ _ _ _ _ _ _ _ _ _ _ _ _ _ _ _ _ _ _ _ _ _ _ _ _ _ _ _ _ _ _ _ _ _ _ _ _ _ _ _ _ _ _ _ _ _ _ _ _ _ _ _ _ _ _ _ _ _ _ _ _ _ _ _ _ _ _ _ _ _ _ _ _ _ _ _ _ _ _ _ _ _ _ _ _ _ _ _ _ _ _ _ _ _ _ _ _ _ _ _ _ _ _ _ _ _ _ _ _ _ _ _ _ _ _ _ _ _ _ _ _ _ _ _ _ _ _ _ _ _ _ _ _ _ _ _ _ _ _ _ _ _ _ _ _ _ _ _ _ _ _ _ _ _ _ _ _ _ _ _ _ _ _ _ _ _ _ _ _ _ _ _ _ _ _ _ _ _ _ _ _ _ _ _ _ _ _ _ _ _ _ _ _ _ _ _ _ _ _ _ _ _ _ _ _ _ _ _ _ _ _ _ _ _ _ _ _ _ _ _ _ _ _ _ _ _ _ _ _ _ _ _ _ _ _ _ _ _ _ _ _ _ _ _ _ _ _ _ _ _ _ _ _ _ _ _ _ _ _ _ _ _ _ _ _ _ _ _ _ _ _ _ _ _ _ _ _ _ _ _ _ _ _ _ _ _ _ _ _ _ _ _ _ _ _ _ _ _ _ _ _ _ _ _ _ _ _ _ _ _ HH HP HK HM HY (Lib.hid ⟨H5.out.1, H5.out.2.1, H5.out.2.2.1, H5.out.2.2.2.2.1⟩) (Lib.hid ⟨HX.out.2.2.2.2.1, HX.out.2.2.2.2.2.2.1⟩) (Lib.hid HX.out.2.1) (Lib.hid fun y hy => HSM.out.1 y hy) HNB (Lib.hid fun a W' h1 h2 h3 => HRT.out a W' h1 h2 h3) ?_ hnb hPb d1 d2 d3
      refine Lib.hid ?_
      intro u4 u15 u16 u17 u18 u19 u20 u144 u145 u146 u147 u148 u149 u150 u151 u152 u153 u154 u155 u156 u157 u158 u159 u160 u161 u162 u163 u164 u165 u166 u167 u168 u169 u170 u171 u172 u173 u174 u175 u176 u177 u178 u179 u180 u181 u182 u183 u184 u185 u186 u187 u188 u189 u190 u191 u192 u193 u194 u195 u196 u197 u198 u199 u200 u201 u202 u203 u204 u205 u206 u207 u208 u209 u210 u211 u212 wr hps hb0
      have HPS := Lib.hid hps
      have HB6 := Lib.hid hb0
      have y1 := (H5.out.2.2.2.1.below hb0 H5.out.2.2.2.1.lt).get 1 (.slice ia J ic) rfl
      clear hps hb0
      dsimp only [Exit.inBlock]
      go_wp2_with fail
      clear y1
      refine inst_loop _ w W1 W5 wr c f x b2 b3 b5 bg bo n bc i J ia fa sa g1 ic F fc T sc pr vr vl mn _ _ _ _ _ _ _ _ _ _ _ _ _ _ _ _ _ _ _ _ _ _ _ _ _ _ _ _ _ _ _ _ _ _ _ _ _ _ _ _ _ _ _ _ _ _ _ _ _ _ _ _ _ _ _ _ _ _ _ _ _ _ _ _ _ _ _ _ _ _ _ _ _ _ _ _ _ _ _ _ _ _ _ _ _ _ _ _ _ _ _ _ _ _ _ _ _ _ _ _ _ _ _ _ _ _ _ _ _ _ _ _ _ _ _ _ _ _ _ _ _ _ _ _ _ _ _ _ _ _ _ _ _ _ _ _ _ _ _ _ _ _ _ _ _ _ _ _ _ _ _ _ _ _ _ _ _ _ _ _ _ _ _ _ _ _ _ _ _ _ _ _ _ _ _ _ _ _ _ _ _ _ _ _ _ _ _ _ _ _ _ _ _ _ _ _ _ _ _ _ _ _ _ _ _ _ _ _ _ _ _ _ _ _ _ _ _ _ _ _ _ _ _ _ _ _ _ _ _ _ _ _ _ _ _ _ _ _ _ _ _ _ _ _ _ _ _ _ _ _ _ _ _ _ _ _ _ _ _ _ _ _ _ _ _ _ _ _ _ _ _ _ _ _ _ _ _ _ _ _ _ _ _ _ _ _ _ _ _ _ _ _ _ _ _ _ _ _ _ _ _ _ _ _ _ _ _ _ _ _ _ _ _ _ _ _ _ _ _ _ _ _ _ _ _ _ _ _ _ _ _ _ _ _ _ _ _ _ _ _ _ _ _ _ _ _ _ _ _ _ _ _ _ _ _ _ _ _ _ _ _ _ _ _ _ _ _ _ _ _ _ _ _ _ _ _ _ _ _ _ _ _ _ _ _ _ _ _ _ _ _ _ _ _ _ _ _ _ _ _ _ _ _ _ _ _ _ _ _ _ _ _ _ _ _ _ _ _ _ _ _ _ _ _ _ _ _ _ _ HH HP HK HM HY (Lib.hid ⟨H5.out.1, H5.out.2.1, H5.out.2.2.2.2.2.1⟩) HB6 (Lib.hid ⟨HX.out.2.2.2.2.1, HX.out.2.2.2.2.2.2.1⟩) (Lib.hid HX.out.2.2.1) (Lib.hid fun y hy => HSM.out.2 y hy) HNB (Lib.hid fun a W' h1 h2 h3 => HRT.out a W' h1 h2 h3) ?_ hnb hFb hTb hJb d1 d2 d3
      refine Lib.hid ?_
      intro u4 u21 u22 u23 u24 u25 u26 u27 u29 u30 u32 u217 u218 u219 u220 u221 u222 u223 u224 u225 u226 u227 u228 u229 u230 u231 u232 u233 u234 u235 u236 u237 u238 u239 u240 u241 u242 u243 u244 u245 u246 u247 u248 u249 u250 u251 u252 u253 u254 u255 u256 u257 u258 u259 u260 u261 u262 u263 u264 u265 u266 u267 u268 u269 u270 u271 u272 u273 u274 u275 u276 u277 u278 u279 u280 u281 u282 u283 u284 u285 u286 u287 u288 u289 u290 u291 u292 u293 u294 u295 u296 u297 u298 u299 u300 u301 u302 u303 u304 u305 u306 u307 u308 u309 u310 u311 u312 u313 u314 u315 u316 u317 u318 u319 u320 u321 u322 u323 u324 u325 u326 u327 u328 u329 u330 u331 u332 u333 u334 u335 u336 u337 u338 u339 u340 u341 u342 u343 u344 u345 u346 u347 u348 u349 u350 u351 u352 u353 u354 u355 u356 u357 u358 u359 u360 u361 u362 u363 u364 u365 u366 u367 u368 u369 u370 u371 u372 u373 u374 u375 u376 u377 u378 u379 u380 u381 u382 u383 u384 u385 u386 u387 u388 u389 u390 u391 u392 u393 u394 u395 u396 u397 u398 u399 u400 u401 u402 u403 u404 u405 u406 u407 u408 u409 u410 u411 u412 u413 u414 wr hps hb0
      clear HB6
      dsimp only [Exit.inBlock]
      have HIS := Lib.hid (show ∀ j (h : j < x.insts.length), RInst c f i j x.insts[j] from fun j hj => hps j hj)
      have hB := below_tr H5.out.1 hb0
      have hk5 := H5.out.2.2.2.1.below hb0 H5.out.2.2.2.1.lt
      have y1 := hk5.get 1 (.slice ia J ic) rfl
      have y2 := hk5.get 2 (U8 fin) rfl
      have y3 := hk5.get 3 (I arg) rfl
      have hkw := HK.out.below hB
      have x0 := hkw.k3.get 0 (I f.params) rfl
      have x1 := hkw.k3.get 1 (I f.vars) rfl
      have x2 := hkw.k3.get 2 (I f.vals) rfl
      have x3 := hkw.k3.get 3 (.slice (some g1) n bc) rfl
      rw [HP.out.1] at x0
      rw [HP.out.2.1] at x1
      rw [HP.out.2.2.1] at x2
      have HC := Lib.hid (HY.out bo n arg i HX.out.2.2.2.2.1 (J : Int) wr hB (H5.out.2.1.below hb0))
      have hRE : Hid (REnd f i x ↔ (fin = 2 ∨ fin = 3 → RMay f arg i J)) := by
        unfold Hid REnd
        rw [HX.out.2.2.2.2.2.1.1, HX.out.2.2.2.2.2.1.2.1, ← HX.out.2.2.1]
      have HNO9 := Lib.hid (show ¬ REnd f i x → ∀ W', Below wr.heap.size wr W' → TellB (RFun c f) w (.returned (.bool false)) W' from fun hno W' hW' => HNB.out (fun h => hno h.2.2) W' (below_tr hb0 hW'))
      have HNX9 := Lib.hid (show REnd f i x → ∀ W', Below wr.heap.size wr W' → RF3 w4 c f (I ((i : Int) + 1)) W' from fun hyes W' hW' => ⟨i + 1, HX.out.2.2.2.2.2.2.1, rfl, fun j hj hji => by
        rcases Nat.lt_or_ge j i with h | h
        · exact HX.out.2.2.2.1 j hj h
        · have e9 : j = i := by omega
          have h9 : RBlk c f i x := ⟨HPS.out, HIS.out, hyes⟩
          rw [HX.out.1] at h9
          subst e9
          exact h9, below_tr HB45.out (below_tr hb0 hW')⟩)
      have HKi := Lib.hid HX.out.2.2.2.2.1
      clear hps hb0 hB hk5 hkw
      by_cases q2 : fin = 2
      case pos =>
        have g2 : (fin == 2) = true := by simpa using q2
        have HQ := Lib.hid (show fin = 2 ∨ fin = 3 from Or.inl q2)
        clear q2
        go_wp2_with fail
        refine HC.out.mono ?_
        rintro e w2 ⟨r, rfl, hr, hb2⟩
        clear y1 y2 y3 x0 x1 x2 x3
        cases r
        case false =>
          have HF := Lib.hid (HNO9.out (fun h => absurd (hr.2 (hRE.out.1 h HQ.out)) (by decide)) w2 hb2)
          clear hr hb2
          dsimp only
          go_wp2_with fail
          exact HRT.out _ _ rfl rfl HF.out
        case true =>
          have HF := Lib.hid (HNX9.out (hRE.out.2 (fun _ => hr.1 (by first | rfl | trivial))) w2 hb2)
          clear hr hb2
          dsimp only
          go_wp2_with fail
          exact ⟨HF.out, by have := HKi.out; simp [intOf]; omega⟩
      have g2 : (fin == 2) = false := by simpa using q2
      by_cases q3 : fin = 3
      case pos =>
        have g3 : (fin == 3) = true := by simpa using q3
        have HQ := Lib.hid (show fin = 2 ∨ fin = 3 from Or.inr q3)
        clear q2 q3
        go_wp2_with fail
        refine HC.out.mono ?_
        rintro e w2 ⟨r, rfl, hr, hb2⟩
        clear y1 y2 y3 x0 x1 x2 x3
        cases r
        case false =>
          have HF := Lib.hid (HNO9.out (fun h => absurd (hr.2 (hRE.out.1 h HQ.out)) (by decide)) w2 hb2)
          clear hr hb2
          dsimp only
          go_wp2_with fail
          exact HRT.out _ _ rfl rfl HF.out
        case true =>
          have HF := Lib.hid (HNX9.out (hRE.out.2 (fun _ => hr.1 (by first | rfl | trivial))) w2 hb2)
          clear hr hb2
          dsimp only
          go_wp2_with fail
          exact ⟨HF.out, by have := HKi.out; simp [intOf]; omega⟩
      have g3 : (fin == 3) = false := by simpa using q3
      have HF := Lib.hid (HNX9.out (hRE.out.2 (fun h => by omega)) wr (Below.refl _ _))
      clear q2 q3
      go_wp2_with fail
      exact ⟨HF.out, by have := HKi.out; simp [intOf]; omega⟩
    · have d0 : decide (i < n) = false := by simpa using hin
      have hIE : i = n := by have := HH.out.1; omega
      subst hIE
      have HBS := Lib.hid (show ∀ j (h : j < f.blocks.length), RBlk c f j f.blocks[j] from fun j hj => hbs j hj (by have := HH.out.1; omega))
      have HB0 := Lib.hid hb0
      clear hbs hb0 hin hi
      go_wp2_with fail
      exact HEX.out _ _ _ _ _ _ _ _ _ _ _ _ _ _ _ _ _ _ _ _ _ _ _ _ _ _ _ _ _ _ _ _ _ _ _ _ _ _ _ _ _ _ _ _ _ _ _ _ _ _ _ _ _ _ _ _ _ _ _ _ _ _ _ _ _ _ _ _ _ _ _ _ _ _ _ _ _ _ _ _ _ _ _ _ _ _ _ _ _ _ _ _ _ _ _ _ _ _ _ _ _ _ _ _ _ _ _ _ _ _ _ _ _ _ _ _ _ _ _ _ _ _ _ _ _ _ _ _ _ _ _ _ _ _ _ _ _ _ _ _ _ _ _ _ _ _ _ _ _ _ _ _ _ _ _ _ _ _ _ _ _ _ _ _ _ _ _ _ _ _ _ _ _ _ _ _ _ _ _ _ _ _ _ _ _ _ _ _ _ _ _ _ _ _ _ _ _ _ _ _ _ _ _ _ _ _ _ _ _ _ _ _ _ _ _ _ _ _ _ _ _ _ _ _ _ _ _ _ _ _ _ _ _ _ _ _ _ _ _ _ _ _ _ _ _ _ _ _ _ _ _ _ _ _ _ _ _ _ _ _ _ _ _ _ _ _ _ _ _ _ _ _ _ _ _ _ _ _ _ _ _ _ _ _ _ _ _ _ _ _ _ _ _ _ _ _ _ _ _ _ _ _ _ _ _ _ _ _ _ _ _ _ _ _ _ _ _ _ _ _ _ HBS.out HB0.out
end Go.Proofs.Ytjlmkcamefaodaa
