/-
  Joined: RLi.
-/
import Derived.Test.YtjlmkcamefaodaaJ39
/-! RLi: The instructions of a block: the loop of the document's Fun by itself. -/

namespace Go.Proofs.Ytjlmkcamefaodaa
open Go Go.RowKit Go.Maps Go.Sort Cd Fl

set_option maxRecDepth 1000000 in
set_option maxHeartbeats 6400000 in
theorem inst_loop (Q0 : Exit → Act → World → Prop) (w W1 W5 Ws : World) (c : CodeP) (f : FunP) (x : BlockP) (b2 b3 b5 bg bo n bc i J : Nat) (ia fa sa : Option Addr) (g1 : Addr) (ic F fc T sc : Nat) (pr vr vl mn : Int) (c0 c1 c5 c6 c7 c8 c9 c10 c14 c15 c16 c17 c18 c19 c20 c28 c31 c33 c34 c35 c36 c37 c38 c39 c40 c41 c42 c43 c44 c45 c46 c47 c48 c49 c50 c51 c52 c53 c54 c55 c56 c57 c58 c59 c60 c61 c62 c63 c64 c65 c66 c67 c68 c69 c70 c71 c72 c73 c74 c75 c76 c77 c78 c79 c80 c81 c82 c83 c84 c85 c86 c87 c88 c89 c90 c91 c92 c93 c94 c95 c96 c97 c98 c99 c100 c101 c102 c103 c104 c105 c106 c107 c108 c109 c110 c111 c112 c113 c114 c115 c116 c117 c118 c119 c120 c121 c122 c123 c124 c125 c126 c127 c128 c129 c130 c131 c132 c133 c134 c135 c136 c137 c138 c139 c140 c141 c142 c143 c144 c145 c146 c147 c148 c149 c150 c151 c152 c153 c154 c155 c156 c157 c158 c159 c160 c161 c162 c163 c164 c165 c166 c167 c168 c169 c170 c171 c172 c173 c174 c175 c176 c177 c178 c179 c180 c181 c182 c183 c184 c185 c186 c187 c188 c189 c190 c191 c192 c193 c194 c195 c196 c197 c198 c199 c200 c201 c202 c203 c204 c205 c206 c207 c208 c209 c210 c211 c212 c213 c415 c416 c417 c418 c419 c420 c421 c422 c423 c424 c425 c426 c427 c428 c429 c430 c431 c432 c433 c434 c435 c436 u4 u21 u22 u23 u24 u25 u26 u27 u29 u30 u32 u217 u218 u219 u220 u221 u222 u223 u224 u225 u226 u227 u228 u229 u230 u231 u232 u233 u234 u235 u236 u237 u238 u239 u240 u241 u242 u243 u244 u245 u246 u247 u248 u249 u250 u251 u252 u253 u254 u255 u256 u257 u258 u259 u260 u261 u262 u263 u264 u265 u266 u267 u268 u269 u270 u271 u272 u273 u274 u275 u276 u277 u278 u279 u280 u281 u282 u283 u284 u285 u286 u287 u288 u289 u290 u291 u292 u293 u294 u295 u296 u297 u298 u299 u300 u301 u302 u303 u304 u305 u306 u307 u308 u309 u310 u311 u312 u313 u314 u315 u316 u317 u318 u319 u320 u321 u322 u323 u324 u325 u326 u327 u328 u329 u330 u331 u332 u333 u334 u335 u336 u337 u338 u339 u340 u341 u342 u343 u344 u345 u346 u347 u348 u349 u350 u351 u352 u353 u354 u355 u356 u357 u358 u359 u360 u361 u362 u363 u364 u365 u366 u367 u368 u369 u370 u371 u372 u373 u374 u375 u376 u377 u378 u379 u380 u381 u382 u383 u384 u385 u386 u387 u388 u389 u390 u391 u392 u393 u394 u395 u396 u397 u398 u399 u400 u401 u402 u403 u404 u405 u406 u407 u408 u409 u410 u411 u412 u413 u414 : Value)
    (HH : Hid (n = f.blocks.length ∧ F = c.funs.length ∧ T = c.stops.length ∧ SmC c ∧ SmF f ∧ f.blocks.length ≤ 150 ∧ Below w.heap.size w W1))
    (HP : Hid (f.params = pr ∧ f.vars = vr ∧ f.vals = vl ∧ c.main = mn))
    (HK : Hid (FK b2 b3 fa sa (some g1) F fc T sc n bc c f W1))
    (HM : Hid (∀ (v : Int) (W : World), Below W1.heap.size W1 W → Calls Try.prog 34 #[.agg #[I pr, I vr, I vl, .slice (some g1) n bc], I v] W fun e w' => MadeT f v W e w'))
    (HY : Hid (∀ (bo dc : Nat) (v : Int) (hb : Nat) (_ : hb < n) (ha : Int) (W : World), Below W1.heap.size W1 W → DomK bo f W → Calls Try.prog 35 #[.agg #[I pr, I vr, I vl, .slice (some g1) n bc], .slice (some ⟨bo, 0, none⟩) n dc, I v, .agg #[I (hb : Int), I ha]] W fun e w' => TellB (RMay f v hb ha) W e w'))
    (H5 : Hid (Below W1.heap.size W1 W5 ∧ DomK bo f W5 ∧ SlS (LtW W5) 6 InstV W5 (.slice ia J ic) x.insts))
    (HBS : Hid (Below W5.heap.size W5 Ws))
    (HXb : Hid (i < n ∧ i < f.blocks.length)) (HXp : Hid (J = x.insts.length)) (HXs : Hid (∀ y ∈ x.insts, SmI y))
    (HNB : Hid (¬ RBlk c f i x → ∀ W', Below W5.heap.size W5 W' → TellB (RFun c f) w (.returned (.bool false)) W'))
    (HRT : Hid (∀ (a : Act) (W' : World), a.tmps[4]? = some (.bool false) → a.defers = [] → TellB (RFun c f) w (.returned (.bool false)) W' → Q0 .ret a W'))
    (HEX : Hid (∀ (u4 u21 u22 u23 u24 u25 u26 u27 u29 u30 u32 u217 u218 u219 u220 u221 u222 u223 u224 u225 u226 u227 u228 u229 u230 u231 u232 u233 u234 u235 u236 u237 u238 u239 u240 u241 u242 u243 u244 u245 u246 u247 u248 u249 u250 u251 u252 u253 u254 u255 u256 u257 u258 u259 u260 u261 u262 u263 u264 u265 u266 u267 u268 u269 u270 u271 u272 u273 u274 u275 u276 u277 u278 u279 u280 u281 u282 u283 u284 u285 u286 u287 u288 u289 u290 u291 u292 u293 u294 u295 u296 u297 u298 u299 u300 u301 u302 u303 u304 u305 u306 u307 u308 u309 u310 u311 u312 u313 u314 u315 u316 u317 u318 u319 u320 u321 u322 u323 u324 u325 u326 u327 u328 u329 u330 u331 u332 u333 u334 u335 u336 u337 u338 u339 u340 u341 u342 u343 u344 u345 u346 u347 u348 u349 u350 u351 u352 u353 u354 u355 u356 u357 u358 u359 u360 u361 u362 u363 u364 u365 u366 u367 u368 u369 u370 u371 u372 u373 u374 u375 u376 u377 u378 u379 u380 u381 u382 u383 u384 u385 u386 u387 u388 u389 u390 u391 u392 u393 u394 u395 u396 u397 u398 u399 u400 u401 u402 u403 u404 u405 u406 u407 u408 u409 u410 u411 u412 u413 u414 : Value) (W' : World), (∀ j (h : j < x.insts.length), RInst c f i j x.insts[j]) → Below W5.heap.size W5 W' → Q0 (.exit 10) ⟨#[c0, c1, Value.pointer (some ⟨b2, 0, none⟩), Value.pointer (some ⟨b3, 0, none⟩), u4, c5, c6, c7, c8, c9, c10, Value.slice (some ⟨bo, 0, none⟩) n n, I (i : Int), Value.pointer (some ⟨b5, 0, none⟩), c14, c15, c16, c17, c18, c19, c20, u21, u22, u23, u24, u25, u26, u27, c28, u29, u30, c31, u32, c33, c34, c35, c36, c37, c38, c39, c40, c41, c42, c43, c44, c45, c46, c47, c48, c49, c50, c51, c52, c53, c54, c55, c56, c57, c58, c59, c60, c61, c62, c63, c64, c65, c66, c67, c68, c69, c70, c71, c72, c73, c74, c75, c76, c77, c78, c79, c80, c81, c82, c83, c84, c85, c86, c87, c88, c89, c90, c91, c92, c93, c94, c95, c96, c97, c98, c99, c100, c101, c102, c103, c104, c105, c106, c107, c108, c109, c110, c111, c112, c113, c114, c115, c116, c117, c118, c119, c120, c121, c122, c123, c124, c125, c126, c127, c128, c129, c130, c131, c132, c133, c134, c135, c136, c137, c138, c139, c140, c141, c142, c143, c144, c145, c146, c147, c148, c149, c150, c151, c152, c153, c154, c155, c156, c157, c158, c159, c160, c161, c162, c163, c164, c165, c166, c167, c168, c169, c170, c171, c172, c173, c174, c175, c176, c177, c178, c179, c180, c181, c182, c183, c184, c185, c186, c187, c188, c189, c190, c191, c192, c193, c194, c195, c196, c197, c198, c199, c200, c201, c202, c203, c204, c205, c206, c207, c208, c209, c210, c211, c212, c213, Value.slice ia J ic, I (J : Int), I (J : Int), u217, u218, u219, u220, u221, u222, u223, u224, u225, u226, u227, u228, u229, u230, u231, u232, u233, u234, u235, u236, u237, u238, u239, u240, u241, u242, u243, u244, u245, u246, u247, u248, u249, u250, u251, u252, u253, u254, u255, u256, u257, u258, u259, u260, u261, u262, u263, u264, u265, u266, u267, u268, u269, u270, u271, u272, u273, u274, u275, u276, u277, u278, u279, u280, u281, u282, u283, u284, u285, u286, u287, u288, u289, u290, u291, u292, u293, u294, u295, u296, u297, u298, u299, u300, u301, u302, u303, u304, u305, u306, u307, u308, u309, u310, u311, u312, u313, u314, u315, u316, u317, u318, u319, u320, u321, u322, u323, u324, u325, u326, u327, u328, u329, u330, u331, u332, u333, u334, u335, u336, u337, u338, u339, u340, u341, u342, u343, u344, u345, u346, u347, u348, u349, u350, u351, u352, u353, u354, u355, u356, u357, u358, u359, u360, u361, u362, u363, u364, u365, u366, u367, u368, u369, u370, u371, u372, u373, u374, u375, u376, u377, u378, u379, u380, u381, u382, u383, u384, u385, u386, u387, u388, u389, u390, u391, u392, u393, u394, u395, u396, u397, u398, u399, u400, u401, u402, u403, u404, u405, u406, u407, u408, u409, u410, u411, u412, u413, u414, c415, c416, c417, c418, c419, c420, c421, c422, c423, c424, c425, c426, c427, c428, c429, c430, c431, c432, c433, c434, c435, c436], []⟩ W'))
    (hnb : (n : Int) ≤ 150) (hFb : (F : Int) ≤ 1000000) (hTb : (T : Int) ≤ 1000000) (hJb : (J : Int) ≤ 1000000) (d1 : (0 : Int) ≤ (i : Int)) (d2 : (i : Int) < (n : Int)) (d3 : (i : Int) ≤ 1000000) :
    Code.wp Try.prog (Code.loop (funBody 5)) Q0 ⟨#[c0, c1, Value.pointer (some ⟨b2, 0, none⟩), Value.pointer (some ⟨b3, 0, none⟩), u4, c5, c6, c7, c8, c9, c10, Value.slice (some ⟨bo, 0, none⟩) n n, I (i : Int), Value.pointer (some ⟨b5, 0, none⟩), c14, c15, c16, c17, c18, c19, c20, u21, u22, u23, u24, u25, u26, u27, c28, u29, u30, c31, u32, c33, c34, c35, c36, c37, c38, c39, c40, c41, c42, c43, c44, c45, c46, c47, c48, c49, c50, c51, c52, c53, c54, c55, c56, c57, c58, c59, c60, c61, c62, c63, c64, c65, c66, c67, c68, c69, c70, c71, c72, c73, c74, c75, c76, c77, c78, c79, c80, c81, c82, c83, c84, c85, c86, c87, c88, c89, c90, c91, c92, c93, c94, c95, c96, c97, c98, c99, c100, c101, c102, c103, c104, c105, c106, c107, c108, c109, c110, c111, c112, c113, c114, c115, c116, c117, c118, c119, c120, c121, c122, c123, c124, c125, c126, c127, c128, c129, c130, c131, c132, c133, c134, c135, c136, c137, c138, c139, c140, c141, c142, c143, c144, c145, c146, c147, c148, c149, c150, c151, c152, c153, c154, c155, c156, c157, c158, c159, c160, c161, c162, c163, c164, c165, c166, c167, c168, c169, c170, c171, c172, c173, c174, c175, c176, c177, c178, c179, c180, c181, c182, c183, c184, c185, c186, c187, c188, c189, c190, c191, c192, c193, c194, c195, c196, c197, c198, c199, c200, c201, c202, c203, c204, c205, c206, c207, c208, c209, c210, c211, c212, c213, Value.slice ia J ic, I (J : Int), I 0, u217, u218, u219, u220, u221, u222, u223, u224, u225, u226, u227, u228, u229, u230, u231, u232, u233, u234, u235, u236, u237, u238, u239, u240, u241, u242, u243, u244, u245, u246, u247, u248, u249, u250, u251, u252, u253, u254, u255, u256, u257, u258, u259, u260, u261, u262, u263, u264, u265, u266, u267, u268, u269, u270, u271, u272, u273, u274, u275, u276, u277, u278, u279, u280, u281, u282, u283, u284, u285, u286, u287, u288, u289, u290, u291, u292, u293, u294, u295, u296, u297, u298, u299, u300, u301, u302, u303, u304, u305, u306, u307, u308, u309, u310, u311, u312, u313, u314, u315, u316, u317, u318, u319, u320, u321, u322, u323, u324, u325, u326, u327, u328, u329, u330, u331, u332, u333, u334, u335, u336, u337, u338, u339, u340, u341, u342, u343, u344, u345, u346, u347, u348, u349, u350, u351, u352, u353, u354, u355, u356, u357, u358, u359, u360, u361, u362, u363, u364, u365, u366, u367, u368, u369, u370, u371, u372, u373, u374, u375, u376, u377, u378, u379, u380, u381, u382, u383, u384, u385, u386, u387, u388, u389, u390, u391, u392, u393, u394, u395, u396, u397, u398, u399, u400, u401, u402, u403, u404, u405, u406, u407, u408, u409, u410, u411, u412, u413, u414, c415, c416, c417, c418, c419, c420, c421, c422, c423, c424, c425, c426, c427, c428, c429, c430, c431, c432, c433, c434, c435, c436], []⟩ Ws := by
  have HS6 := Lib.hid (show RF6 W5 c f i x (I 0) Ws from ⟨0, Nat.zero_le _, rfl, fun j _ h => absurd h (by omega), HBS.out⟩)
  conv => arg 2; arg 1; whnf
  dsimp only
  go_loopw [216] (fun kv W => RF6 W5 c f i x kv W) (fun kv _ => J - (intOf kv).toNat)
  case atStart => exact HS6.out
  case round =>
    obtain ⟨k, hk, rfl, hps, hb0⟩ := hrel
    clear HS6
    by_cases hkJ : k < J
    · have kx : k < x.insts.length := by have := HXp.out; omega
      obtain ⟨pb, _, e1, pl, cw, av, dv, rfl, haz, hdz⟩ := (H5.out.2.2.below instV_stays hb0).at k kx
      subst e1
      obtain ⟨aa, ac, hav⟩ := haz.size
      obtain ⟨da, dc, hdv⟩ := hdz.size
      have hsi : SmI x.insts[k] := HXs.out _ (List.getElem_mem kx)
      obtain ⟨y, hy⟩ : ∃ y, y = x.insts[k] := ⟨_, rfl⟩
      rw [← hy] at cw haz hdz hsi hav hdv
      obtain ⟨A, hA⟩ : ∃ A, A = y.args.length := ⟨_, rfl⟩
      obtain ⟨D, hD⟩ : ∃ A, A = y.dbg.length := ⟨_, rfl⟩
      subst hav hdv
      have hAb : (A : Int) ≤ 1000000 := by have := hsi.al; omega
      have hDb : (D : Int) ≤ 1000000 := by have := hsi.dl; omega
      obtain ⟨op, dst, imm, site, hyy⟩ : ∃ op dst imm site, y.op = op ∧ y.dst = dst ∧ y.imm = imm ∧ y.site = site := ⟨_, _, _, _, rfl, rfl, rfl, rfl⟩
      obtain ⟨o, hO⟩ : ∃ o : Nat, op = (o : Int) := ⟨op.toNat, by have := hsi.wf.1; rw [hyy.1] at this; omega⟩
      have ho : o < 256 := by have := hsi.wf.1; rw [hyy.1, hO] at this; omega
      subst hO
      rw [hyy.1, hyy.2.1, hyy.2.2.1, hyy.2.2.2, ← hA, ← hD] at cw
      rw [← hA] at haz
      have c0 := cw.f0
      have c1 := cw.f1
      have c2 := cw.f2
      have c3 := cw.f3
      have c4 := cw.f4
      have c5 := cw.f5
      obtain ⟨W6, hW6⟩ : ∃ W, W = wr.alloc (.cells #[U8 (o : Int), I dst, .slice aa A ac, I imm, I site, .slice da D dc] 44) := ⟨_, rfl⟩
      obtain ⟨b6, hb6⟩ : ∃ b, b = wr.heap.size := ⟨_, rfl⟩
      have hB6 : Below wr.heap.size wr W6 := by rw [hW6]; exact (Below.refl _ _).alloc (Nat.le_refl _) _
      have k6 : Blk b6 #[U8 (o : Int), I dst, .slice aa A ac, I imm, I site, .slice da D dc] 44 W6 := by rw [hW6, hb6]; exact Blk.new _ _ _
      have z0 := k6.get 0 (U8 (o : Int)) rfl
      have hB56 := below_tr hb0 hB6
      have hSH := refShape_any o ho W6
      obtain ⟨a0, mkb, is, hsh⟩ : ∃ a0 mkb is, shapeF o = (a0, mkb, is) := ⟨_, _, _, rfl⟩
      rw [hsh] at hSH
      have HSH := Lib.hid hSH
      have HS := Lib.hid (show shI y.op = (a0, mkb, is) by unfold shI; rw [hyy.1, Int.toNat_natCast]; exact hsh)
      have HIM : Hid (ImmOk c f i y ↔ ((o = 32 → (i : Int) = 0 ∧ 0 ≤ imm ∧ imm < pr) ∧ (o = 36 → 1 ≤ imm ∧ imm ≤ 256) ∧ (o = 39 → 0 ≤ imm ∧ imm < (F : Int)) ∧ (o = 43 ∨ o = 44 → 0 ≤ imm ∧ imm < vr))) := by
        unfold Hid ImmOk
        rw [hyy.1, hyy.2.2.1, HP.out.1, HP.out.2.1, ← HH.out.2.1]
        simp only [show ((o : Int) = 32) = (o = 32) from propext (by omega), show ((o : Int) = 36) = (o = 36) from propext (by omega), show ((o : Int) = 39) = (o = 39) from propext (by omega), show ((o : Int) = 43) = (o = 43) from propext (by omega), show ((o : Int) = 44) = (o = 44) from propext (by omega)]
      have HAN := Lib.hid (show (o = 39 → argsN c y = paramsN c y ∧ makesB y = (dst != -1)) ∧ (o ≠ 39 → argsN c y = a0 ∧ makesB y = mkb) from ⟨fun h => by
        unfold argsN makesB
        rw [if_pos (by rw [hyy.1]; omega), if_pos (by rw [hyy.1]; omega), hyy.2.1]
        exact ⟨rfl, rfl⟩, fun h => by
        unfold argsN makesB
        rw [if_neg (by rw [hyy.1]; omega), if_neg (by rw [hyy.1]; omega), HS.out]
        exact ⟨rfl, rfl⟩⟩)
      have HTE := Lib.hid (show Tells y ↔ (o = 42 ∨ o = 39) by unfold Tells; rw [hyy.1]; omega)
      have HTR := Lib.hid (show trapsB y.op.toNat = trapsB o by rw [hyy.1, Int.toNat_natCast])
      have HYY := Lib.hid (And.intro hyy.1 (And.intro hyy.2.1 (And.intro hyy.2.2.1 (And.intro hyy.2.2.2 (And.intro hA (And.intro hD (And.intro hsi ho)))))))
      have HN6 := Lib.hid (show ¬ RInst c f i k y → ∀ W', Below W6.heap.size W6 W' → TellB (RFun c f) w (.returned (.bool false)) W' from fun hno W' hW' => HNB.out (fun h => hno (by rw [hy]; exact h.2.1 k kx)) W' (below_tr hB56 hW'))
      have HX6 := Lib.hid (show RInst c f i k y → ∀ W', Below W6.heap.size W6 W' → RF6 W5 c f i x (I ((k : Int) + 1)) W' from fun hyes W' hW' => ⟨k + 1, kx, rfl, fun j hj hjk => by
        rcases Nat.lt_or_ge j k with h | h
        · exact hps j hj h
        · obtain rfl : j = k := by omega
          rw [← hy]; exact hyes, below_tr hB56 hW'⟩)
      have H6 := Lib.hid (And.intro k6 (And.intro hB56 (And.intro (haz.below intV_stays hB6) (hdz.below dbgV_stays hB6))))
      have HKJ := Lib.hid hkJ
      have HW6 := Lib.hid (And.intro hW6 hb6)
      have HKW := Lib.hid (show ∀ W', Below W6.heap.size W6 W' → FK b2 b3 fa sa (some g1) F fc T sc n bc c f W' from fun W' hW' => (HK.out.below H5.out.1).below (below_tr hB56 hW'))
      have HBW := Lib.hid (show ∀ W', Below W6.heap.size W6 W' → Below W1.heap.size W1 W' ∧ DomK bo f W' from fun W' hW' => ⟨below_tr H5.out.1 (below_tr hB56 hW'), H5.out.2.1.below (below_tr hB56 hW')⟩)
      have e0 : decide (k < J) = true := by simpa using hkJ
      have e1 : (0 : Int) ≤ (k : Int) := by omega
      have e2 : (k : Int) < (J : Int) := by omega
      clear hps hb0 pl cw haz hdz hsi hA hD hyy hW6 hb6 hB6 k6 hB56 hkJ hk hy kx hSH hsh ho
      go_upto_region 46 with (fail)
      rw [← HW6.out.2]
      change Code.wp _ _ _ _ (wr.alloc (.cells #[U8 (o : Int), I dst, .slice aa A ac, I imm, I site, .slice da D dc] 44))
      rw [← HW6.out.1]
      clear c0 c1 c2 c3 c4 c5
      go_wp2_with fail
      refine HSH.out.mono ?_
      rintro e w7 ⟨rfl, hb7⟩
      try dsimp only
      simp only [shapeV]
      have k7 := H6.out.1.below hb7 H6.out.1.lt
      have HB7 := Lib.hid hb7
      clear z0 hb7
      have z0 := k7.get 0 (U8 (o : Int)) rfl
      have z1 := k7.get 1 (I dst) rfl
      have z2 := k7.get 2 (.slice aa A ac) rfl
      have z3 := k7.get 3 (I imm) rfl
      have hkw := HKW.out w7 HB7.out
      have x0 := hkw.k3.get 0 (I f.params) rfl
      have x1 := hkw.k3.get 1 (I f.vars) rfl
      have x2 := hkw.k3.get 2 (I f.vals) rfl
      have x3 := hkw.k3.get 3 (.slice (some g1) n bc) rfl
      have v0 := hkw.k2.get 0 (.slice fa F fc) rfl
      have v1 := hkw.k2.get 1 (.slice sa T sc) rfl
      rw [HP.out.1] at x0
      rw [HP.out.2.1] at x1
      rw [HP.out.2.2.1] at x2
      clear k7 hkw
      cases is
      case false =>
        have HF := Lib.hid (HN6.out (fun h => by have h9 := h.1.1.1; rw [HS.out] at h9; cases h9) w7 HB7.out)
        go_wp2_with fail
        exact HRT.out _ _ rfl rfl HF.out
      by_cases h45 : o = 45
      case pos =>
        have g45 : ((o : Int) == 45) = true := by simp; omega
        have HF := Lib.hid (HN6.out (fun h => h.1.1.2 (by rw [HYY.out.1, h45]; rfl)) w7 HB7.out)
        clear h45
        go_wp2_with fail
        exact HRT.out _ _ rfl rfl HF.out
      have g45 : ((o : Int) == 45) = false := by simp; omega
      have HFO := Lib.hid (show (shI y.op).2.2 = true ∧ y.op ≠ 45 from ⟨by rw [HS.out], by rw [HYY.out.1]; omega⟩)
      clear h45
      go_upto_block 12 with (fail)
      go_cut [23, 24] from 217 to 298 (fun u v W => u = I (argsN c y) ∧ v = .bool (makesB y) ∧ ImmOk c f i y ∧ Below W6.heap.size W6 W)
      case first =>
        as_aux_lemma =>
          by_cases h39 : o = 39
          · have g39 : ((o : Int) == 39) = true := by simp; omega
            by_cases p0 : imm < 0
            case pos =>
              have g0 : decide (imm < 0) = true := decide_eq_true p0
              have HF := Lib.hid (HN6.out (fun h => by have := (HIM.out.1 h.1.2).2.2.1 h39; omega) w7 HB7.out)
              clear h39 p0
              go_wp2_with fail
              exact HRT.out _ _ rfl rfl HF.out
            have g0 : decide (imm < 0) = false := decide_eq_false p0
            by_cases p1 : (F : Int) ≤ imm
            case pos =>
              have g1 : decide ((F : Int) ≤ imm) = true := decide_eq_true p1
              have HF := Lib.hid (HN6.out (fun h => by have := (HIM.out.1 h.1.2).2.2.1 h39; omega) w7 HB7.out)
              clear h39 p0 p1
              go_wp2_with fail
              exact HRT.out _ _ rfl rfl HF.out
            have g1 : decide ((F : Int) ≤ imm) = false := decide_eq_false p1
            obtain ⟨q, rfl⟩ : ∃ q : Nat, imm = (q : Int) := ⟨imm.toNat, by omega⟩
            have hqF : q < c.funs.length := by have := HH.out.2.1; omega
            obtain ⟨bb, _, hfa, hbB, cw, bv', hbv', hbl'⟩ := (HKW.out w7 HB7.out).ff.at q hqF
            subst hfa hbv'
            have cp := cw.f0
            obtain ⟨P, hP⟩ : ∃ P, P = c.funs[q].params := ⟨_, rfl⟩
            rw [← hP] at cp
            have d1 : (0 : Int) ≤ (q : Int) := by omega
            have d2 : (q : Int) < (F : Int) := by omega
            have HF := Lib.hid (fun nq => show I P = I (argsN c y) ∧ Value.bool (dst != -1) = .bool (makesB y) ∧ ImmOk c f i y ∧ Below W6.heap.size W6 (w7.drewN nq) from ⟨by
              rw [(HAN.out.1 h39).1]
              unfold paramsN
              rw [HYY.out.2.2.1, Int.toNat_natCast, List.getElem?_eq_getElem hqF, hP], by rw [(HAN.out.1 h39).2], HIM.out.2 ⟨fun h => by omega, fun h => by omega, fun _ => by omega, fun h => by omega⟩, below_drewN HB7.out nq⟩)
            clear h39 p0 p1 hqF hbB cw hbl' hP
            go_upto_region 53 with (fail)
            go_quiet (fail)
            go_wp2_with fail
            go_meet
            case rel => exact HF.out _
          · have g39 : ((o : Int) == 39) = false := by simp; omega
            have HAM := Lib.hid (HAN.out.2 h39)
            have HPASS := Lib.hid (show ImmOk c f i y → I a0 = I (argsN c y) ∧ Value.bool mkb = .bool (makesB y) ∧ ImmOk c f i y ∧ Below W6.heap.size W6 w7 from fun h => ⟨by rw [HAM.out.1], by rw [HAM.out.2], h, HB7.out⟩)
            by_cases h32 : o = 32
            · have g32 : ((o : Int) == 32) = true := by simp; omega
              by_cases p0 : i = 0
              case neg =>
                have g0 : ((i : Int) != 0) = true := by simp; omega
                have HF := Lib.hid (HN6.out (fun h => by have := (HIM.out.1 h.1.2).1 h32; omega) w7 HB7.out)
                clear h39 h32 p0
                go_wp2_with fail
                exact HRT.out _ _ rfl rfl HF.out
              have g0 : ((i : Int) != 0) = false := by simp; omega
              by_cases p1 : imm < 0
              case pos =>
                have g1 : decide (imm < 0) = true := decide_eq_true p1
                have HF := Lib.hid (HN6.out (fun h => by have := (HIM.out.1 h.1.2).1 h32; omega) w7 HB7.out)
                clear h39 h32 p0 p1
                go_wp2_with fail
                exact HRT.out _ _ rfl rfl HF.out
              have g1 : decide (imm < 0) = false := decide_eq_false p1
              by_cases p2 : pr ≤ imm
              case pos =>
                have g2 : decide (pr ≤ imm) = true := decide_eq_true p2
                have HF := Lib.hid (HN6.out (fun h => by have := (HIM.out.1 h.1.2).1 h32; omega) w7 HB7.out)
                clear h39 h32 p0 p1 p2
                go_wp2_with fail
                exact HRT.out _ _ rfl rfl HF.out
              have g2 : decide (pr ≤ imm) = false := decide_eq_false p2
              have HF := Lib.hid (HPASS.out (HIM.out.2 ⟨fun _ => by omega, fun h => by omega, fun h => by omega, fun h => by omega⟩))
              clear h39 h32 p0 p1 p2
              go_wp2_with fail
              go_meet
              case rel => exact HF.out
            have g32 : ((o : Int) == 32) = false := by simp; omega
            by_cases h36 : o = 36
            · have g36 : ((o : Int) == 36) = true := by simp; omega
              by_cases p1 : imm < 1
              case pos =>
                have g1 : decide (imm < 1) = true := decide_eq_true p1
                have HF := Lib.hid (HN6.out (fun h => by have := (HIM.out.1 h.1.2).2.1 h36; omega) w7 HB7.out)
                clear h39 h32 h36 p1
                go_wp2_with fail
                exact HRT.out _ _ rfl rfl HF.out
              have g1 : decide (imm < 1) = false := decide_eq_false p1
              by_cases p2 : 256 < imm
              case pos =>
                have g2 : decide (256 < imm) = true := decide_eq_true p2
                have HF := Lib.hid (HN6.out (fun h => by have := (HIM.out.1 h.1.2).2.1 h36; omega) w7 HB7.out)
                clear h39 h32 h36 p1 p2
                go_wp2_with fail
                exact HRT.out _ _ rfl rfl HF.out
              have g2 : decide (256 < imm) = false := decide_eq_false p2
              have HF := Lib.hid (HPASS.out (HIM.out.2 ⟨fun h => by omega, fun _ => by omega, fun h => by omega, fun h => by omega⟩))
              clear h39 h32 h36 p1 p2
              go_wp2_with fail
              go_meet
              case rel => exact HF.out
            have g36 : ((o : Int) == 36) = false := by simp; omega
            by_cases h43 : o = 43 ∨ o = 44
            · obtain ⟨t43, ht43⟩ : ∃ t, t = ((o : Int) == 43) := ⟨_, rfl⟩
              have g44 : t43 = false → ((o : Int) == 44) = true := fun h => by
                rw [h] at ht43
                have := ht43.symm
                simp at this ⊢
                omega
              by_cases p1 : imm < 0
              case pos =>
                have g1 : decide (imm < 0) = true := decide_eq_true p1
                have HF := Lib.hid (HN6.out (fun h => by have := (HIM.out.1 h.1.2).2.2.2 h43; omega) w7 HB7.out)
                clear h39 h32 h36 h43 p1
                cases t43
                · have g43 := ht43.symm
                  have g44' := g44 rfl
                  clear ht43 g44
                  go_wp2_with fail
                  exact HRT.out _ _ rfl rfl HF.out
                · have g43 := ht43.symm
                  clear ht43 g44
                  go_wp2_with fail
                  exact HRT.out _ _ rfl rfl HF.out
              have g1 : decide (imm < 0) = false := decide_eq_false p1
              by_cases p2 : vr ≤ imm
              case pos =>
                have g2 : decide (vr ≤ imm) = true := decide_eq_true p2
                have HF := Lib.hid (HN6.out (fun h => by have := (HIM.out.1 h.1.2).2.2.2 h43; omega) w7 HB7.out)
                clear h39 h32 h36 h43 p1 p2
                cases t43
                · have g43 := ht43.symm
                  have g44' := g44 rfl
                  clear ht43 g44
                  go_wp2_with fail
                  exact HRT.out _ _ rfl rfl HF.out
                · have g43 := ht43.symm
                  clear ht43 g44
                  go_wp2_with fail
                  exact HRT.out _ _ rfl rfl HF.out
              have g2 : decide (vr ≤ imm) = false := decide_eq_false p2
              have HF := Lib.hid (HPASS.out (HIM.out.2 ⟨fun h => by omega, fun h => by omega, fun h => by omega, fun _ => by omega⟩))
              clear h39 h32 h36 h43 p1 p2
              cases t43
              · have g43 := ht43.symm
                have g44' := g44 rfl
                clear ht43 g44
                go_wp2_with fail
                go_meet
                case rel => exact HF.out
              · have g43 := ht43.symm
                clear ht43 g44
                go_wp2_with fail
                go_meet
                case rel => exact HF.out
            · have g43 : ((o : Int) == 43) = false := by simp; omega
              have g44 : ((o : Int) == 44) = false := by simp; omega
              have HF := Lib.hid (HPASS.out (HIM.out.2 ⟨fun h => by omega, fun h => by omega, fun h => by omega, fun h => by omega⟩))
              clear h39 h32 h36 h43
              go_wp2_with fail
              go_meet
              case rel => exact HF.out
      case rest =>
        as_aux_lemma =>
          obtain ⟨rfl, rfl, hIm, hbc⟩ := hcut
          clear z0 z1 z2 z3 x0 x1 x2 x3 v0 v1 g45
          obtain ⟨w8, rfl⟩ : ∃ W : World, W = wc := ⟨_, rfl⟩
          have HI8 := Lib.hid (And.intro hIm hbc)
          clear hIm hbc
          obtain ⟨an, han⟩ : ∃ a, a = argsN c y := ⟨_, rfl⟩
          obtain ⟨mb, hmb⟩ : ∃ a, a = makesB y := ⟨_, rfl⟩
          rw [← han, ← hmb]
          have HAB := Lib.hid (And.intro han hmb)
          clear han hmb
          have hk8 := H6.out.1.below HI8.out.2 H6.out.1.lt
          have hkw := HKW.out w8 HI8.out.2
          have z1 := hk8.get 1 (I dst) rfl
          have z2 := hk8.get 2 (.slice aa A ac) rfl
          have x0 := hkw.k3.get 0 (I f.params) rfl
          have x1 := hkw.k3.get 1 (I f.vars) rfl
          have x2 := hkw.k3.get 2 (I f.vals) rfl
          have x3 := hkw.k3.get 3 (.slice (some g1) n bc) rfl
          rw [HP.out.1] at x0
          rw [HP.out.2.1] at x1
          rw [HP.out.2.2.1] at x2
          clear hk8 hkw
          obtain ⟨ra, hra⟩ : ∃ r : Bool, r = true ↔ ¬ RArgs c f y := by
            by_cases e : RArgs c f y
            · exact ⟨false, by simp [e]⟩
            · exact ⟨true, by simp [e]⟩
          have hRA : Hid (RArgs c f y ↔ (A : Int) = an ∧ (mb = false → dst = -1) ∧ (mb = true → 0 ≤ dst ∧ dst < vl)) := by
            unfold Hid RArgs
            rw [← HAB.out.1, ← HAB.out.2, HYY.out.2.1, HP.out.2.2.1, ← HYY.out.2.2.2.2.1]
          have HRA := Lib.hid hra
          clear hra
          go_upto_region 64 with (fail)
          go_cut [327] from 217 to 327 (fun u W => u = .bool ra ∧ w8 = W)
          case first =>
            as_aux_lemma =>
              have HT := Lib.hid (show ¬ RArgs c f y → Value.bool true = .bool ra from fun h => by rw [HRA.out.2 h])
              have HL := Lib.hid (show RArgs c f y → Value.bool false = .bool ra from fun h => by
                cases ra
                · rfl
                · exact absurd h (HRA.out.1 rfl))
              by_cases p0 : (A : Int) = an
              case neg =>
                have g0 : ((A : Int) != an) = true := by simpa using p0
                have HF := Lib.hid (HT.out (fun h => p0 (hRA.out.1 h).1))
                clear p0
                go_wp2_with fail
                go_meet
                case rel => exact ⟨HF.out, rfl⟩
              have g0 : ((A : Int) != an) = false := by simpa using p0
              cases mb
              case false =>
                by_cases p1 : dst = -1
                case pos =>
                  have g1 : (dst != -1) = false := by simpa using p1
                  have HF := Lib.hid (HL.out (hRA.out.2 ⟨p0, fun _ => p1, fun h => by cases h⟩))
                  clear p0 p1
                  go_wp2_with fail
                  go_meet
                  case rel => exact ⟨HF.out, rfl⟩
                have g1 : (dst != -1) = true := by simpa using p1
                have HF := Lib.hid (HT.out (fun h => p1 ((hRA.out.1 h).2.1 rfl)))
                clear p0 p1
                go_wp2_with fail
                go_meet
                case rel => exact ⟨HF.out, rfl⟩
              case true =>
                by_cases p1 : dst < 0
                case pos =>
                  have g1 : decide (dst < 0) = true := decide_eq_true p1
                  have HF := Lib.hid (HT.out (fun h => by have := (hRA.out.1 h).2.2 rfl; omega))
                  clear p0 p1
                  go_wp2_with fail
                  go_meet
                  case rel => exact ⟨HF.out, rfl⟩
                have g1 : decide (dst < 0) = false := decide_eq_false p1
                by_cases p2 : vl ≤ dst
                case pos =>
                  have g2 : decide (vl ≤ dst) = true := decide_eq_true p2
                  have HF := Lib.hid (HT.out (fun h => by have := (hRA.out.1 h).2.2 rfl; omega))
                  clear p0 p1 p2
                  go_wp2_with fail
                  go_meet
                  case rel => exact ⟨HF.out, rfl⟩
                have g2 : decide (vl ≤ dst) = false := decide_eq_false p2
                have HF := Lib.hid (HL.out (hRA.out.2 ⟨p0, (fun h => by cases h), fun _ => by omega⟩))
                clear p0 p1 p2
                go_wp2_with fail
                go_meet
                case rel => exact ⟨HF.out, rfl⟩
          case rest =>
            as_aux_lemma =>
              obtain ⟨rfl, rfl⟩ := hcut
              cases ra
              case true =>
                have HF := Lib.hid (HN6.out (fun h => HRA.out.1 rfl h.2.1) w8 HI8.out.2)
                go_wp2_with fail
                exact HRT.out _ _ rfl rfl HF.out
              have HRG := Lib.hid (show RArgs c f y from Classical.byContradiction fun h => absurd (HRA.out.2 h) (by decide))
              go_upto_if 328 with (fail)
              go_cut [] from 217 to 337 (fun W => (mb = true → cnt (rMk f) dst = 1) ∧ Below W6.heap.size W6 W)
              case first =>
                as_aux_lemma =>
                  cases mb
                  case false =>
                    go_wp2_with fail
                    go_meet
                    case rel => exact ⟨(fun h => by cases h), HI8.out.2⟩
                  case true =>
                    have HMC := Lib.hid (HM.out dst w8 (HBW.out w8 HI8.out.2).1)
                    go_wp2_with fail
                    refine HMC.out.mono ?_
                    rintro e w9 ⟨s, pb', pa', rfl, hsb, hT, hb9⟩
                    try dsimp only
                    obtain ⟨W10, hW10⟩ : ∃ W, W = w9.alloc (.cells #[I pb', I pa'] 75) := ⟨_, rfl⟩
                    obtain ⟨b10, hb10⟩ : ∃ b, b = w9.heap.size := ⟨_, rfl⟩
                    have hB10 : Below W6.heap.size W6 W10 := below_tr (below_tr HI8.out.2 hb9) (by rw [hW10]; exact (Below.refl _ _).alloc (Nat.le_refl _) _)
                    have HW10 := Lib.hid (And.intro hW10 hb10)
                    have H10 := Lib.hid (And.intro hB10 hT)
                    clear z1 z2 x0 x1 x2 x3 hsb hT hb9 hW10 hb10 hB10
                    try dsimp only
                    go_upto_region 68 with (fail)
                    rw [← HW10.out.2]
                    change Code.wp _ _ _ _ (w9.alloc (.cells #[I pb', I pa'] 75))
                    rw [← HW10.out.1]
                    by_cases hs1 : s = 1
                    case neg =>
                      have g4 : ((s : Int) != 1) = true := by simp; omega
                      have HF := Lib.hid (HN6.out (fun h => hs1 (by
                        rw [H10.out.2.1]
                        have h9 := h.2.2.1 (by rw [← HAB.out.2])
                        rwa [HYY.out.2.1] at h9)) W10 H10.out.1)
                      clear hs1
                      go_wp2_with fail
                      exact HRT.out _ _ rfl rfl HF.out
                    have g4 : ((s : Int) != 1) = false := by simp; omega
                    have HC1 := Lib.hid (show cnt (rMk f) dst = 1 by rw [← H10.out.2.1]; exact hs1)
                    clear hs1
                    go_wp2_with fail
                    go_meet
                    case rel => exact ⟨fun _ => HC1.out, H10.out.1⟩
              case rest =>
                as_aux_lemma =>
                  obtain ⟨hcn, hbd⟩ := hcut
                  obtain ⟨w9, rfl⟩ : ∃ W : World, W = wc := ⟨_, rfl⟩
                  have H9 := Lib.hid (And.intro hcn hbd)
                  clear hcn hbd z1 z2 x0 x1 x2 x3
                  have z2 := (H6.out.1.below H9.out.2 H6.out.1.lt).get 2 (.slice aa A ac) rfl
                  have HS7 := Lib.hid (show RF7 w9 f i k y.args (I 0) w9 from ⟨0, Nat.zero_le _, rfl, fun j _ h => absurd h (by omega), Below.refl _ _⟩)
                  go_wp2_with fail
                  clear z2
                  go_loopw [341] (fun kv W => RF7 w9 f i k y.args kv W) (fun kv _ => A - (intOf kv).toNat)
                  case atStart => exact HS7.out
                  case round =>
                    obtain ⟨q, hq, rfl, hus, hb1⟩ := hrel
                    clear HS7
                    by_cases hqA : q < A
                    case pos =>
                      have qx : q < y.args.length := by have := HYY.out.2.2.2.2.1; omega
                      have hB := below_tr H9.out.2 hb1
                      obtain ⟨gb, _, e1, pl, cw, rfl⟩ := (H6.out.2.2.1.below intV_stays hB).at q qx
                      subst e1
                      obtain ⟨v, hv⟩ : ∃ v, v = y.args[q] := ⟨_, rfl⟩
                      have c0 := cw.f0
                      rw [← hv, Nat.mul_one] at c0
                      have hkw := HKW.out wr hB
                      have x0 := hkw.k3.get 0 (I f.params) rfl
                      have x1 := hkw.k3.get 1 (I f.vars) rfl
                      have x2 := hkw.k3.get 2 (I f.vals) rfl
                      have x3 := hkw.k3.get 3 (.slice (some g1) n bc) rfl
                      rw [HP.out.1] at x0
                      rw [HP.out.2.1] at x1
                      rw [HP.out.2.2.1] at x2
                      have HC := Lib.hid (HY.out bo n v i HXb.out.1 (k : Int) wr (HBW.out wr hB).1 (HBW.out wr hB).2)
                      have HNO7 := Lib.hid (show ¬ RMay f v i k → ∀ W', Below wr.heap.size wr W' → TellB (RFun c f) w (.returned (.bool false)) W' from fun hno W' hW' => HN6.out (fun h => hno (h.2.2.2.1 v (by rw [hv]; exact List.getElem_mem qx))) W' (below_tr hB hW'))
                      have HNX7 := Lib.hid (show RMay f v i k → ∀ W', Below wr.heap.size wr W' → RF7 w9 f i k y.args (I ((q : Int) + 1)) W' from fun hyes W' hW' => ⟨q + 1, qx, rfl, fun j hj hjk => by
                        rcases Nat.lt_or_ge j q with h | h
                        · exact hus j hj h
                        · obtain rfl : j = q := by omega
                          rw [← hv]; exact hyes, below_tr hb1 hW'⟩)
                      have HKq := Lib.hid hqA
                      have f0 : decide (q < A) = true := by simpa using hqA
                      have f1 : (0 : Int) ≤ (q : Int) := by omega
                      have f2 : (q : Int) < (A : Int) := by omega
                      clear hus hb1 hB pl cw hkw hqA hq hv qx
                      go_wp2_with fail
                      refine HC.out.mono ?_
                      rintro e w2 ⟨r, rfl, hr, hb2⟩
                      try dsimp only
                      clear c0 x0 x1 x2 x3
                      cases r
                      case false =>
                        have HF := Lib.hid (HNO7.out (fun h => absurd (hr.2 h) (by decide)) w2 hb2)
                        clear hr hb2
                        go_wp2_with fail
                        exact HRT.out _ _ rfl rfl HF.out
                      case true =>
                        have HF := Lib.hid (HNX7.out (hr.1 (by first | rfl | trivial)) w2 hb2)
                        clear hr hb2
                        go_wp2_with fail
                        exact ⟨HF.out, by have := HKq.out; simp [intOf]; omega⟩
                    have f0 : decide (q < A) = false := by simpa using hqA
                    have HUS := Lib.hid (show RUse f i k y from fun v hv => by
                      obtain ⟨j, hj, rfl⟩ := List.getElem_of_mem hv
                      exact hus j hj (by have := HYY.out.2.2.2.2.1; omega))
                    have HB11 := Lib.hid (below_tr H9.out.2 hb1)
                    obtain ⟨w11, rfl⟩ : ∃ W : World, W = wr := ⟨_, rfl⟩
                    have hk8 := H6.out.1.below HB11.out H6.out.1.lt
                    have z0 := hk8.get 0 (U8 (o : Int)) rfl
                    have z1 := hk8.get 1 (I dst) rfl
                    have z2 := hk8.get 2 (.slice aa A ac) rfl
                    have z3 := hk8.get 3 (I imm) rfl
                    have z4 := hk8.get 4 (I site) rfl
                    have z5 := hk8.get 5 (.slice da D dc) rfl
                    have hkw := HKW.out w11 HB11.out
                    have x0 := hkw.k3.get 0 (I f.params) rfl
                    have x1 := hkw.k3.get 1 (I f.vars) rfl
                    have x2 := hkw.k3.get 2 (I f.vals) rfl
                    have x3 := hkw.k3.get 3 (.slice (some g1) n bc) rfl
                    have v0 := hkw.k2.get 0 (.slice fa F fc) rfl
                    have v1 := hkw.k2.get 1 (.slice sa T sc) rfl
                    have v2 := hkw.k2.get 2 (I c.main) rfl
                    rw [HP.out.1] at x0
                    rw [HP.out.2.1] at x1
                    rw [HP.out.2.2.1] at x2
                    rw [HP.out.2.2.2] at v2
                    clear hus hb1 hqA hq hk8 hkw
                    obtain ⟨tl, htl⟩ : ∃ t : Bool, t = true ↔ Tells y := by
                      by_cases e : Tells y
                      · exact ⟨true, by simp [e]⟩
                      · exact ⟨false, by simp [e]⟩
                    have HTL := Lib.hid htl
                    clear htl
                    go_upto_region 76 with (fail)
                    go_cut [30] from 217 to 361 (fun u W => u = .bool tl ∧ w11 = W)
                    case first =>
                      as_aux_lemma =>
                        have HT := Lib.hid (show Tells y → Value.bool true = .bool tl from fun h => by rw [HTL.out.2 h])
                        have HL := Lib.hid (show ¬ Tells y → Value.bool false = .bool tl from fun h => by
                          cases tl
                          · rfl
                          · exact absurd (HTL.out.1 rfl) h)
                        by_cases h42 : o = 42
                        case pos =>
                          have g42 : ((o : Int) == 42) = true := by simp; omega
                          have HF := Lib.hid (HT.out (HTE.out.2 (Or.inl h42)))
                          clear h42
                          go_wp2_with fail
                          go_meet
                          case rel => exact ⟨HF.out, rfl⟩
                        have g42 : ((o : Int) == 42) = false := by simp; omega
                        by_cases h39 : o = 39
                        case pos =>
                          have g39 : ((o : Int) == 39) = true := by simp; omega
                          have HF := Lib.hid (HT.out (HTE.out.2 (Or.inr h39)))
                          clear h42 h39
                          go_wp2_with fail
                          go_meet
                          case rel => exact ⟨HF.out, rfl⟩
                        have g39 : ((o : Int) == 39) = false := by simp; omega
                        have HF := Lib.hid (HL.out (fun h => by have := HTE.out.1 h; omega))
                        clear h42 h39
                        go_wp2_with fail
                        go_meet
                        case rel => exact ⟨HF.out, rfl⟩
                    case rest =>
                      as_aux_lemma =>
                        obtain ⟨rfl, rfl⟩ := hcut
                        obtain ⟨sb, hsb⟩ : ∃ s : Bool, s = true ↔ ¬ RSite c y := by
                          by_cases e : RSite c y
                          · exact ⟨false, by simp [e]⟩
                          · exact ⟨true, by simp [e]⟩
                        have HSB := Lib.hid hsb
                        have hRS : Hid (RSite c y ↔ (Tells y ∨ trapsB o = true → 0 ≤ site ∧ site < (T : Int))) := by
                          unfold Hid RSite
                          rw [HTR.out, HYY.out.2.2.2.1, ← HH.out.2.2.1]
                        clear hsb
                        go_upto_region 77 with (fail)
                        go_cut [380] from 217 to 380 (fun u W => u = .bool sb ∧ w11 = W)
                        case first =>
                          as_aux_lemma =>
                            have HT := Lib.hid (show ¬ RSite c y → Value.bool true = .bool sb from fun h => by rw [HSB.out.2 h])
                            have HL := Lib.hid (show RSite c y → Value.bool false = .bool sb from fun h => by
                              cases sb
                              · rfl
                              · exact absurd h (HSB.out.1 rfl))
                            have HTC := refTraps_any o w11
                            obtain ⟨tb, htb⟩ : ∃ t, t = trapsB o := ⟨_, rfl⟩
                            rw [← htb] at HTC hRS
                            have hTC := Lib.hid HTC
                            clear HTC htb
                            by_cases p1 : site < 0
                            case pos =>
                              have g1 : decide (site < 0) = true := decide_eq_true p1
                              cases tl
                              case false =>
                                cases tb
                                case false =>
                                  have HF := Lib.hid (HL.out (hRS.out.2 (fun h => Or.elim h (fun h => absurd (HTL.out.2 h) (by decide)) (fun h => Bool.noConfusion h))))
                                  clear p1
                                  go_wp2_with fail
                                  refine hTC.out.mono ?_
                                  rintro e w' ⟨rfl, rfl⟩
                                  try dsimp only
                                  go_wp2_with fail
                                  go_meet
                                  case rel => exact ⟨HF.out, rfl⟩
                                case true =>
                                  have HF := Lib.hid (HT.out (fun h => by have := hRS.out.1 h (Or.inr rfl); omega))
                                  clear p1
                                  go_wp2_with fail
                                  refine hTC.out.mono ?_
                                  rintro e w' ⟨rfl, rfl⟩
                                  try dsimp only
                                  go_wp2_with fail
                                  go_meet
                                  case rel => exact ⟨HF.out, rfl⟩
                              case true =>
                                have HF := Lib.hid (HT.out (fun h => by have := hRS.out.1 h (Or.inl (HTL.out.1 rfl)); omega))
                                clear p1
                                go_wp2_with fail
                                go_meet
                                case rel => exact ⟨HF.out, rfl⟩
                            have g1 : decide (site < 0) = false := decide_eq_false p1
                            by_cases p2 : (T : Int) ≤ site
                            case pos =>
                              have g2 : decide ((T : Int) ≤ site) = true := decide_eq_true p2
                              cases tl
                              case false =>
                                cases tb
                                case false =>
                                  have HF := Lib.hid (HL.out (hRS.out.2 (fun h => Or.elim h (fun h => absurd (HTL.out.2 h) (by decide)) (fun h => Bool.noConfusion h))))
                                  clear p1 p2
                                  go_wp2_with fail
                                  refine hTC.out.mono ?_
                                  rintro e w' ⟨rfl, rfl⟩
                                  try dsimp only
                                  go_wp2_with fail
                                  go_meet
                                  case rel => exact ⟨HF.out, rfl⟩
                                case true =>
                                  have HF := Lib.hid (HT.out (fun h => by have := hRS.out.1 h (Or.inr rfl); omega))
                                  clear p1 p2
                                  go_wp2_with fail
                                  refine hTC.out.mono ?_
                                  rintro e w' ⟨rfl, rfl⟩
                                  try dsimp only
                                  go_wp2_with fail
                                  go_meet
                                  case rel => exact ⟨HF.out, rfl⟩
                              case true =>
                                have HF := Lib.hid (HT.out (fun h => by have := hRS.out.1 h (Or.inl (HTL.out.1 rfl)); omega))
                                clear p1 p2
                                go_wp2_with fail
                                go_meet
                                case rel => exact ⟨HF.out, rfl⟩
                            have g2 : decide ((T : Int) ≤ site) = false := decide_eq_false p2
                            have HF := Lib.hid (HL.out (hRS.out.2 (fun _ => by omega)))
                            clear p1 p2
                            cases tl
                            case false =>
                              go_wp2_with fail
                              refine hTC.out.mono ?_
                              rintro e w' ⟨rfl, rfl⟩
                              try dsimp only
                              cases tb
                              · go_wp2_with fail
                                go_meet
                                case rel => exact ⟨HF.out, rfl⟩
                              · go_wp2_with fail
                                go_meet
                                case rel => exact ⟨HF.out, rfl⟩
                            case true =>
                              go_wp2_with fail
                              go_meet
                              case rel => exact ⟨HF.out, rfl⟩
                        case rest =>
                          as_aux_lemma =>
                            obtain ⟨rfl, rfl⟩ := hcut
                            cases sb
                            case true =>
                              have HF := Lib.hid (HN6.out (fun h => HSB.out.1 rfl h.2.2.2.2.1) w11 HB11.out)
                              go_wp2_with fail
                              exact HRT.out _ _ rfl rfl HF.out
                            have HSI := Lib.hid (show RSite c y from Classical.byContradiction fun h => absurd (HSB.out.2 h) (by decide))
                            obtain ⟨kb, hkb⟩ : ∃ s : Bool, s = true ↔ ¬ (Tells y → KnownOk f.vars (framesN c y) y.dbg) := by
                              by_cases e : (Tells y → KnownOk f.vars (framesN c y) y.dbg)
                              · exact ⟨false, by simp only [Bool.false_eq_true, false_iff]; exact fun h => h e⟩
                              · exact ⟨true, by simp only [true_iff]; exact e⟩
                            have HKB := Lib.hid hkb
                            clear hkb
                            go_upto_region 79 with (fail)
                            go_cut [388] from 217 to 388 (fun u W => u = .bool kb ∧ Below w11.heap.size w11 W)
                            case first =>
                              as_aux_lemma =>
                                have HT := Lib.hid (show ¬ (Tells y → KnownOk f.vars (framesN c y) y.dbg) → Value.bool true = .bool kb from fun h => by rw [HKB.out.2 h])
                                have HL := Lib.hid (show (Tells y → KnownOk f.vars (framesN c y) y.dbg) → Value.bool false = .bool kb from fun h => by
                                  cases kb
                                  · rfl
                                  · exact absurd h (HKB.out.1 rfl))
                                cases tl
                                case false =>
                                  have HF := Lib.hid (HL.out (fun h => absurd (HTL.out.2 h) (by decide)))
                                  go_wp2_with fail
                                  go_meet
                                  case rel => exact ⟨HF.out, Below.refl _ _⟩
                                case true =>
                                  have hst := hRS.out.1 HSI.out (Or.inl (HTL.out.1 rfl))
                                  obtain ⟨st, hst2⟩ : ∃ st : Nat, site = (st : Int) := ⟨site.toNat, by omega⟩
                                  have hKC := known_any c f y HYY.out.2.2.2.2.2.2.1 fa sa (some g1) aa F fc sc n bc A ac mn (.slice da y.dbg.length dc) st (by rw [HYY.out.2.2.2.1]; exact hst2) (by have := HH.out.2.2.1; omega) HH.out.2.2.2.1.st.2 w11 (by rw [← HH.out.2.2.1]; exact (HKW.out w11 HB11.out).ss) (by
                                    have h9 := H6.out.2.2.2.below dbgV_stays HB11.out
                                    exact h9)
                                  rw [HYY.out.1, HYY.out.2.1, HYY.out.2.2.1, HYY.out.2.2.2.1, HP.out.1, HP.out.2.1, HP.out.2.2.1, ← HH.out.2.2.1, ← HYY.out.2.2.2.2.2.1] at hKC
                                  rw [HP.out.2.1] at HT HL
                                  have HKC := Lib.hid hKC
                                  clear hst hst2 hKC
                                  go_wp2_with fail
                                  refine HKC.out.mono ?_
                                  rintro e w2 ⟨r, rfl, hr, hb2⟩
                                  try dsimp only
                                  cases r
                                  case false =>
                                    have HF := Lib.hid (HT.out (fun h => absurd (hr.2 (h (HTL.out.1 rfl))) (by decide)))
                                    have HB2 := Lib.hid hb2
                                    clear hr hb2
                                    go_wp2_with fail
                                    go_meet
                                    case rel => exact ⟨HF.out, HB2.out⟩
                                  case true =>
                                    have HF := Lib.hid (HL.out (fun _ => hr.1 (by first | rfl | trivial)))
                                    have HB2 := Lib.hid hb2
                                    clear hr hb2
                                    go_wp2_with fail
                                    go_meet
                                    case rel => exact ⟨HF.out, HB2.out⟩
                            case rest =>
                              as_aux_lemma =>
                                obtain ⟨rfl, hbk⟩ := hcut
                                obtain ⟨w12, rfl⟩ : ∃ W : World, W = wc := ⟨_, rfl⟩
                                have HB12 := Lib.hid (below_tr HB11.out hbk)
                                clear hbk z0 z1 z2 z3 z4 z5 x0 x1 x2 x3 v0 v1 v2
                                cases kb
                                case true =>
                                  have HF := Lib.hid (HN6.out (fun h => HKB.out.1 rfl h.2.2.2.2.2.1) w12 HB12.out)
                                  go_wp2_with fail
                                  exact HRT.out _ _ rfl rfl HF.out
                                have HKN := Lib.hid (show Tells y → KnownOk f.vars (framesN c y) y.dbg from Classical.byContradiction fun h => absurd (HKB.out.2 h) (by decide))
                                have z5 := (H6.out.1.below HB12.out H6.out.1.lt).get 5 (.slice da D dc) rfl
                                have HS8 := Lib.hid (show RF8 w12 f i k y (I 0) w12 from ⟨0, Nat.zero_le _, rfl, fun j _ h => absurd h (by omega), Below.refl _ _⟩)
                                go_wp2_with fail
                                clear z5
                                go_loopw [392] (fun kv W => RF8 w12 f i k y kv W) (fun kv _ => D - (intOf kv).toNat)
                                case atStart => exact HS8.out
                                case round =>
                                  obtain ⟨q, hq, rfl, hds, hb1⟩ := hrel
                                  clear HS8
                                  by_cases hqD : q < D
                                  case pos =>
                                    have qx : q < y.dbg.length := by have := HYY.out.2.2.2.2.2.1; omega
                                    have hB := below_tr HB12.out hb1
                                    have hdz := H6.out.2.2.2.below dbgV_stays hB
                                    rw [← HYY.out.2.2.2.2.2.1] at hdz
                                    obtain ⟨gb, _, e1, pl, cw, rfl⟩ := hdz.at q qx
                                    subst e1
                                    obtain ⟨d, hd⟩ : ∃ d, d = y.dbg[q] := ⟨_, rfl⟩
                                    rw [← hd] at cw
                                    obtain ⟨dep, var, kind, darg, da', db', hdd⟩ : ∃ dep var kind arg da' db', d.dep = dep ∧ d.var = var ∧ d.kind = kind ∧ d.arg = arg ∧ d.a = da' ∧ d.b = db' := ⟨_, _, _, _, _, _, rfl, rfl, rfl, rfl, rfl, rfl⟩
                                    have c0 := cw.f0
                                    have c1 := cw.f1
                                    have c2 := cw.f2
                                    have c3 := cw.f3
                                    have c4 := cw.f4
                                    have c5 := cw.f5
                                    rw [hdd.1] at c0
                                    rw [hdd.2.1] at c1
                                    rw [hdd.2.2.1] at c2
                                    rw [hdd.2.2.2.1] at c3
                                    rw [hdd.2.2.2.2.1] at c4
                                    rw [hdd.2.2.2.2.2] at c5
                                    obtain ⟨W13, hW13⟩ : ∃ W, W = wr.alloc (.cells #[I dep, I var, U8 kind, I darg, I da', I db'] 57) := ⟨_, rfl⟩
                                    obtain ⟨b13, hb13⟩ : ∃ b, b = wr.heap.size := ⟨_, rfl⟩
                                    have hB13 : Below wr.heap.size wr W13 := by rw [hW13]; exact (Below.refl _ _).alloc (Nat.le_refl _) _
                                    have k13 : Blk b13 #[I dep, I var, U8 kind, I darg, I da', I db'] 57 W13 := by rw [hW13, hb13]; exact Blk.new _ _ _
                                    have z2 := k13.get 2 (U8 kind) rfl
                                    have z3 := k13.get 3 (I darg) rfl
                                    have hB' := below_tr hB hB13
                                    have hkw := HKW.out W13 hB'
                                    have x0 := hkw.k3.get 0 (I f.params) rfl
                                    have x1 := hkw.k3.get 1 (I f.vars) rfl
                                    have x2 := hkw.k3.get 2 (I f.vals) rfl
                                    have x3 := hkw.k3.get 3 (.slice (some g1) n bc) rfl
                                    rw [HP.out.1] at x0
                                    rw [HP.out.2.1] at x1
                                    rw [HP.out.2.2.1] at x2
                                    have HC := Lib.hid (HY.out bo n darg i HXb.out.1 (k : Int) W13 (HBW.out W13 hB').1 (HBW.out W13 hB').2)
                                    have HNO8 := Lib.hid (show Tells y → kind = 2 → ¬ RMay f darg i k → ∀ W', Below W13.heap.size W13 W' → TellB (RFun c f) w (.returned (.bool false)) W' from fun ht hk2 hno W' hW' => HN6.out (fun h => hno (by
                                      have h9 := h.2.2.2.2.2.2 ht d (by rw [hd]; exact List.getElem_mem qx) (by rw [hdd.2.2.1]; exact hk2)
                                      rwa [hdd.2.2.2.1] at h9)) W' (below_tr hB' hW'))
                                    have HNX8 := Lib.hid (show (Tells y → kind = 2 → RMay f darg i k) → ∀ W', Below W13.heap.size W13 W' → RF8 w12 f i k y (I ((q : Int) + 1)) W' from fun hyes W' hW' => ⟨q + 1, qx, rfl, fun j hj hjk => by
                                      rcases Nat.lt_or_ge j q with h | h
                                      · exact hds j hj h
                                      · obtain rfl : j = q := by omega
                                        rw [← hd, hdd.2.2.1, hdd.2.2.2.1]; exact hyes, below_tr (below_tr hb1 hB13) hW'⟩)
                                    have HKq := Lib.hid hqD
                                    have HW13 := Lib.hid (And.intro hW13 hb13)
                                    have f0 : decide (q < D) = true := by simpa using hqD
                                    have f1 : (0 : Int) ≤ (q : Int) := by omega
                                    have f2 : (q : Int) < (D : Int) := by omega
                                    clear hds hb1 hB hdz pl cw hkw hqD hq hd hdd hW13 hb13 hB13 k13 hB' qx
                                    go_upto_region 84 with (fail)
                                    rw [← HW13.out.2]
                                    change Code.wp _ _ _ _ (wr.alloc (.cells #[I dep, I var, U8 kind, I darg, I da', I db'] 57))
                                    rw [← HW13.out.1]
                                    clear c0 c1 c2 c3 c4 c5
                                    cases tl
                                    case false =>
                                      have HF := Lib.hid (HNX8.out (fun h => absurd (HTL.out.2 h) (by decide)) W13 (Below.refl _ _))
                                      go_wp2_with fail
                                      exact ⟨HF.out, by have := HKq.out; simp [intOf]; omega⟩
                                    by_cases hk2 : kind = 2
                                    case neg =>
                                      have g2 : (kind == 2) = false := by simpa using hk2
                                      have HF := Lib.hid (HNX8.out (fun _ h => absurd h hk2) W13 (Below.refl _ _))
                                      clear hk2
                                      go_wp2_with fail
                                      exact ⟨HF.out, by have := HKq.out; simp [intOf]; omega⟩
                                    have g2 : (kind == 2) = true := by simpa using hk2
                                    have HK2 := Lib.hid hk2
                                    clear hk2
                                    go_wp2_with fail
                                    refine HC.out.mono ?_
                                    rintro e w2 ⟨r, rfl, hr, hb2⟩
                                    try dsimp only
                                    clear z2 z3 x0 x1 x2 x3
                                    cases r
                                    case false =>
                                      have HF := Lib.hid (HNO8.out (HTL.out.1 rfl) HK2.out (fun h => absurd (hr.2 h) (by decide)) w2 hb2)
                                      clear hr hb2
                                      go_wp2_with fail
                                      exact HRT.out _ _ rfl rfl HF.out
                                    case true =>
                                      have HF := Lib.hid (HNX8.out (fun _ _ => hr.1 (by first | rfl | trivial)) w2 hb2)
                                      clear hr hb2
                                      go_wp2_with fail
                                      exact ⟨HF.out, by have := HKq.out; simp [intOf]; omega⟩
                                  have f0 : decide (q < D) = false := by simpa using hqD
                                  have HF := Lib.hid (HX6.out ⟨⟨HFO.out, HI8.out.1⟩, HRG.out, fun h => by rw [HYY.out.2.1]; exact H9.out.1 (by rw [HAB.out.2]; exact h), HUS.out, HSI.out, HKN.out, fun ht d hd hk2 => by
                                    obtain ⟨j, hj, rfl⟩ := List.getElem_of_mem hd
                                    exact hds j hj (by have := HYY.out.2.2.2.2.2.1; omega) ht hk2⟩ wr (below_tr HB12.out hb1))
                                  clear hds hb1 hqD hq
                                  go_wp2_with fail
                                  exact ⟨HF.out, by have := HKJ.out; simp [intOf]; omega⟩
    · have e0 : decide (k < J) = false := by simpa using hkJ
      have hkE : k = J := by have := HXp.out; omega
      subst hkE
      have HIS := Lib.hid (show ∀ j (h : j < x.insts.length), RInst c f i j x.insts[j] from fun j hj => hps j hj (by have := HXp.out; omega))
      have HB0 := Lib.hid hb0
      clear hps hb0 hkJ hk
      go_wp2_with fail
      exact HEX.out _ _ _ _ _ _ _ _ _ _ _ _ _ _ _ _ _ _ _ _ _ _ _ _ _ _ _ _ _ _ _ _ _ _ _ _ _ _ _ _ _ _ _ _ _ _ _ _ _ _ _ _ _ _ _ _ _ _ _ _ _ _ _ _ _ _ _ _ _ _ _ _ _ _ _ _ _ _ _ _ _ _ _ _ _ _ _ _ _ _ _ _ _ _ _ _ _ _ _ _ _ _ _ _ _ _ _ _ _ _ _ _ _ _ _ _ _ _ _ _ _ _ _ _ _ _ _ _ _ _ _ _ _ _ _ _ _ _ _ _ _ _ _ _ _ _ _ _ _ _ _ _ _ _ _ _ _ _ _ _ _ _ _ _ _ _ _ _ _ _ _ _ _ _ _ _ _ _ _ _ _ _ _ _ _ _ _ _ _ _ _ _ _ _ _ _ _ _ _ _ _ _ _ _ _ _ _ _ _ _ HIS.out HB0.out
end Go.Proofs.Ytjlmkcamefaodaa
