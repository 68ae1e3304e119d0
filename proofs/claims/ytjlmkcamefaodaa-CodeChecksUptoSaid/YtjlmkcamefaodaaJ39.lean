/-
  Joined: RLp.
-/
import Derived.Test.YtjlmkcamefaodaaJ37
import Derived.Test.YtjlmkcamefaodaaJ38
import Derived.Deep.DeepCutAuto
import Derived.Deep.CutBlock
/-! RLp: The phis of a block: the loop of the document's Fun by itself. -/

namespace Go.Proofs.Ytjlmkcamefaodaa
open Go Go.RowKit Go.Maps Go.Sort Cd Fl

def RF1 (w : World) (f : FunP) (iv : Value) (W : World) : Prop := ∃ i : Nat, i ≤ f.blocks.length ∧ iv = I (i : Int) ∧ (∀ j (h : j < f.blocks.length), j < i → REndB f.blocks[j]) ∧ Below w.heap.size w W
def RF2 (w : World) (f : FunP) (iv : Value) (W : World) : Prop := ∃ i : Nat, i ≤ f.blocks.length ∧ iv = I (i : Int) ∧ (∀ j, j < i → Rch (gN f) j) ∧ W = w
def RF3 (w : World) (c : CodeP) (f : FunP) (iv : Value) (W : World) : Prop := ∃ i : Nat, i ≤ f.blocks.length ∧ iv = I (i : Int) ∧ (∀ j (h : j < f.blocks.length), j < i → RBlk c f j f.blocks[j]) ∧ Below w.heap.size w W
def RF4 (w : World) (f : FunP) (i : Nat) (b : BlockP) (kv : Value) (W : World) : Prop := ∃ k : Nat, k ≤ b.phis.length ∧ kv = I (k : Int) ∧ (∀ j (h : j < b.phis.length), j < k → RPhi f i b.phis[j]) ∧ Below w.heap.size w W
def RF5 (w : World) (f : FunP) (i : Nat) (args : List Int) (kv : Value) (W : World) : Prop := ∃ k : Nat, k ≤ args.length ∧ kv = I (k : Int) ∧ (∀ j (h : j < args.length) (h' : j < (intoN f i).length), j < k → RMay f args[j] ((intoN f i)[j] : Int) (instLen f (intoN f i)[j])) ∧ Below w.heap.size w W
def RF6 (w : World) (c : CodeP) (f : FunP) (i : Nat) (b : BlockP) (kv : Value) (W : World) : Prop := ∃ k : Nat, k ≤ b.insts.length ∧ kv = I (k : Int) ∧ (∀ j (h : j < b.insts.length), j < k → RInst c f i j b.insts[j]) ∧ Below w.heap.size w W
def RF7 (w : World) (f : FunP) (b a : Int) (args : List Int) (kv : Value) (W : World) : Prop := ∃ k : Nat, k ≤ args.length ∧ kv = I (k : Int) ∧ (∀ j (h : j < args.length), j < k → RMay f args[j] b a) ∧ Below w.heap.size w W
def RF8 (w : World) (f : FunP) (b a : Int) (x : InstP) (kv : Value) (W : World) : Prop := ∃ k : Nat, k ≤ x.dbg.length ∧ kv = I (k : Int) ∧ (∀ j (h : j < x.dbg.length), j < k → Tells x → x.dbg[j].kind = 2 → RMay f x.dbg[j].arg b a) ∧ Below w.heap.size w W
/-- What the walk keeps of a function and of the code it stands in. -/
structure FK (b2 b3 : Nat) (fa sa ba : Option Addr) (F fc T sc n bc : Nat) (c : CodeP) (f : FunP) (w : World) : Prop where
  k2 : Blk b2 #[.slice fa F fc, .slice sa T sc, I c.main] 25 w
  k3 : Blk b3 #[I f.params, I f.vars, I f.vals, .slice ba n bc] 36 w
  ff : FunsZ w (.slice fa F fc) c.funs
  ss : StopsZ w (.slice sa T sc) c.stops
  bb : BlocksZ w (.slice ba n bc) f.blocks
  ln : n = f.blocks.length ∧ F = c.funs.length ∧ T = c.stops.length
theorem FK.below {b2 b3 : Nat} {fa sa ba : Option Addr} {F fc T sc n bc : Nat} {c : CodeP} {f : FunP} {w w' : World} (h : FK b2 b3 fa sa ba F fc T sc n bc c f w) (hb : Below w.heap.size w w') : FK b2 b3 fa sa ba F fc T sc n bc c f w' :=
  ⟨h.k2.below hb h.k2.lt, h.k3.below hb h.k3.lt, h.ff.below funV_stays hb, h.ss.below stopV_stays hb, h.bb.below blockV_stays hb, h.ln⟩


def loopsOf : Code → List Code
  | .loop c => c :: loopsOf c
  | .seq a b => loopsOf a ++ loopsOf b
  | .block _ c => loopsOf c
  | .scope c => loopsOf c
  | .cond _ a b => loopsOf a ++ loopsOf b
  | _ => []
noncomputable def funBody (k : Nat) : Code := (((Try.f21.body.map loopsOf).getD [])[k]?).getD .skip
set_option maxRecDepth 1000000 in
set_option maxHeartbeats 6400000 in
theorem phi_loop (Q0 : Exit → Act → World → Prop) (w W1 W5 : World) (c : CodeP) (f : FunP) (x : BlockP) (b2 b3 b5 bg bo n bc gc2 i PL : Nat) (pa fa sa : Option Addr) (g1 : Addr) (pc F fc T sc : Nat) (pr vr vl mn : Int) (c0 c1 c5 c6 c7 c8 c9 c14 c21 c22 c23 c24 c25 c26 c27 c28 c29 c30 c31 c32 c33 c34 c35 c36 c37 c38 c39 c40 c41 c42 c43 c44 c45 c46 c47 c48 c49 c50 c51 c52 c53 c54 c55 c56 c57 c58 c59 c60 c61 c62 c63 c64 c65 c66 c67 c68 c69 c70 c71 c72 c73 c74 c75 c76 c77 c78 c79 c80 c81 c82 c83 c84 c85 c86 c87 c88 c89 c90 c91 c92 c93 c94 c95 c96 c97 c98 c99 c100 c101 c102 c103 c104 c105 c106 c107 c108 c109 c110 c111 c112 c113 c114 c115 c116 c117 c118 c119 c120 c121 c122 c123 c124 c125 c126 c127 c128 c129 c130 c131 c132 c133 c134 c135 c136 c137 c138 c139 c140 c213 c214 c215 c216 c217 c218 c219 c220 c221 c222 c223 c224 c225 c226 c227 c228 c229 c230 c231 c232 c233 c234 c235 c236 c237 c238 c239 c240 c241 c242 c243 c244 c245 c246 c247 c248 c249 c250 c251 c252 c253 c254 c255 c256 c257 c258 c259 c260 c261 c262 c263 c264 c265 c266 c267 c268 c269 c270 c271 c272 c273 c274 c275 c276 c277 c278 c279 c280 c281 c282 c283 c284 c285 c286 c287 c288 c289 c290 c291 c292 c293 c294 c295 c296 c297 c298 c299 c300 c301 c302 c303 c304 c305 c306 c307 c308 c309 c310 c311 c312 c313 c314 c315 c316 c317 c318 c319 c320 c321 c322 c323 c324 c325 c326 c327 c328 c329 c330 c331 c332 c333 c334 c335 c336 c337 c338 c339 c340 c341 c342 c343 c344 c345 c346 c347 c348 c349 c350 c351 c352 c353 c354 c355 c356 c357 c358 c359 c360 c361 c362 c363 c364 c365 c366 c367 c368 c369 c370 c371 c372 c373 c374 c375 c376 c377 c378 c379 c380 c381 c382 c383 c384 c385 c386 c387 c388 c389 c390 c391 c392 c393 c394 c395 c396 c397 c398 c399 c400 c401 c402 c403 c404 c405 c406 c407 c408 c409 c410 c411 c412 c413 c414 c415 c416 c417 c418 c419 c420 c421 c422 c423 c424 c425 c426 c427 c428 c429 c430 c431 c432 c433 c434 c435 c436 u4 u15 u16 u17 u18 u19 u20 u144 u145 u146 u147 u148 u149 u150 u151 u152 u153 u154 u155 u156 u157 u158 u159 u160 u161 u162 u163 u164 u165 u166 u167 u168 u169 u170 u171 u172 u173 u174 u175 u176 u177 u178 u179 u180 u181 u182 u183 u184 u185 u186 u187 u188 u189 u190 u191 u192 u193 u194 u195 u196 u197 u198 u199 u200 u201 u202 u203 u204 u205 u206 u207 u208 u209 u210 u211 u212 : Value)
    (HH : Hid (n = f.blocks.length ∧ F = c.funs.length ∧ T = c.stops.length ∧ SmC c ∧ SmF f ∧ f.blocks.length ≤ 150 ∧ Below w.heap.size w W1))
    (HP : Hid (f.params = pr ∧ f.vars = vr ∧ f.vals = vl ∧ c.main = mn))
    (HK : Hid (FK b2 b3 fa sa (some g1) F fc T sc n bc c f W1))
    (HM : Hid (∀ (v : Int) (W : World), Below W1.heap.size W1 W → Calls Try.prog 34 #[.agg #[I pr, I vr, I vl, .slice (some g1) n bc], I v] W fun e w' => MadeT f v W e w'))
    (HY : Hid (∀ (bo dc : Nat) (v : Int) (hb : Nat) (_ : hb < n) (ha : Int) (W : World), Below W1.heap.size W1 W → DomK bo f W → Calls Try.prog 35 #[.agg #[I pr, I vr, I vl, .slice (some g1) n bc], .slice (some ⟨bo, 0, none⟩) n dc, I v, .agg #[I (hb : Int), I ha]] W fun e w' => TellB (RMay f v hb ha) W e w'))
    (H5 : Hid (Below W1.heap.size W1 W5 ∧ DomK bo f W5 ∧ IntoR bg f W5 ∧ SlS (LtW W5) 6 InstV W5 (.slice pa PL pc) x.phis))
    (HXb : Hid (i < n ∧ i < f.blocks.length)) (HXp : Hid (PL = x.phis.length)) (HXs : Hid (∀ y ∈ x.phis, SmI y))
    (HNB : Hid (¬ RBlk c f i x → ∀ W', Below W5.heap.size W5 W' → TellB (RFun c f) w (.returned (.bool false)) W'))
    (HRT : Hid (∀ (a : Act) (W' : World), a.tmps[4]? = some (.bool false) → a.defers = [] → TellB (RFun c f) w (.returned (.bool false)) W' → Q0 .ret a W'))
    (HEX : Hid (∀ (u4 u15 u16 u17 u18 u19 u20 u144 u145 u146 u147 u148 u149 u150 u151 u152 u153 u154 u155 u156 u157 u158 u159 u160 u161 u162 u163 u164 u165 u166 u167 u168 u169 u170 u171 u172 u173 u174 u175 u176 u177 u178 u179 u180 u181 u182 u183 u184 u185 u186 u187 u188 u189 u190 u191 u192 u193 u194 u195 u196 u197 u198 u199 u200 u201 u202 u203 u204 u205 u206 u207 u208 u209 u210 u211 u212 : Value) (W' : World), (∀ j (h : j < x.phis.length), RPhi f i x.phis[j]) → Below W5.heap.size W5 W' → Q0 (.exit 6) ⟨#[c0, c1, Value.pointer (some ⟨b2, 0, none⟩), Value.pointer (some ⟨b3, 0, none⟩), u4, c5, c6, c7, c8, c9, Value.slice (some ⟨bg, 0, none⟩) n gc2, Value.slice (some ⟨bo, 0, none⟩) n n, I (i : Int), Value.pointer (some ⟨b5, 0, none⟩), c14, u15, u16, u17, u18, u19, u20, c21, c22, c23, c24, c25, c26, c27, c28, c29, c30, c31, c32, c33, c34, c35, c36, c37, c38, c39, c40, c41, c42, c43, c44, c45, c46, c47, c48, c49, c50, c51, c52, c53, c54, c55, c56, c57, c58, c59, c60, c61, c62, c63, c64, c65, c66, c67, c68, c69, c70, c71, c72, c73, c74, c75, c76, c77, c78, c79, c80, c81, c82, c83, c84, c85, c86, c87, c88, c89, c90, c91, c92, c93, c94, c95, c96, c97, c98, c99, c100, c101, c102, c103, c104, c105, c106, c107, c108, c109, c110, c111, c112, c113, c114, c115, c116, c117, c118, c119, c120, c121, c122, c123, c124, c125, c126, c127, c128, c129, c130, c131, c132, c133, c134, c135, c136, c137, c138, c139, c140, Value.slice pa PL pc, I (PL : Int), I (PL : Int), u144, u145, u146, u147, u148, u149, u150, u151, u152, u153, u154, u155, u156, u157, u158, u159, u160, u161, u162, u163, u164, u165, u166, u167, u168, u169, u170, u171, u172, u173, u174, u175, u176, u177, u178, u179, u180, u181, u182, u183, u184, u185, u186, u187, u188, u189, u190, u191, u192, u193, u194, u195, u196, u197, u198, u199, u200, u201, u202, u203, u204, u205, u206, u207, u208, u209, u210, u211, u212, c213, c214, c215, c216, c217, c218, c219, c220, c221, c222, c223, c224, c225, c226, c227, c228, c229, c230, c231, c232, c233, c234, c235, c236, c237, c238, c239, c240, c241, c242, c243, c244, c245, c246, c247, c248, c249, c250, c251, c252, c253, c254, c255, c256, c257, c258, c259, c260, c261, c262, c263, c264, c265, c266, c267, c268, c269, c270, c271, c272, c273, c274, c275, c276, c277, c278, c279, c280, c281, c282, c283, c284, c285, c286, c287, c288, c289, c290, c291, c292, c293, c294, c295, c296, c297, c298, c299, c300, c301, c302, c303, c304, c305, c306, c307, c308, c309, c310, c311, c312, c313, c314, c315, c316, c317, c318, c319, c320, c321, c322, c323, c324, c325, c326, c327, c328, c329, c330, c331, c332, c333, c334, c335, c336, c337, c338, c339, c340, c341, c342, c343, c344, c345, c346, c347, c348, c349, c350, c351, c352, c353, c354, c355, c356, c357, c358, c359, c360, c361, c362, c363, c364, c365, c366, c367, c368, c369, c370, c371, c372, c373, c374, c375, c376, c377, c378, c379, c380, c381, c382, c383, c384, c385, c386, c387, c388, c389, c390, c391, c392, c393, c394, c395, c396, c397, c398, c399, c400, c401, c402, c403, c404, c405, c406, c407, c408, c409, c410, c411, c412, c413, c414, c415, c416, c417, c418, c419, c420, c421, c422, c423, c424, c425, c426, c427, c428, c429, c430, c431, c432, c433, c434, c435, c436], []⟩ W'))
    (hnb : (n : Int) ≤ 150) (hPb : (PL : Int) ≤ 1000000) (d1 : (0 : Int) ≤ (i : Int)) (d2 : (i : Int) < (n : Int)) (d3 : (i : Int) ≤ 1000000) :
    Code.wp Try.prog (Code.loop (funBody 3)) Q0 ⟨#[c0, c1, Value.pointer (some ⟨b2, 0, none⟩), Value.pointer (some ⟨b3, 0, none⟩), u4, c5, c6, c7, c8, c9, Value.slice (some ⟨bg, 0, none⟩) n gc2, Value.slice (some ⟨bo, 0, none⟩) n n, I (i : Int), Value.pointer (some ⟨b5, 0, none⟩), c14, u15, u16, u17, u18, u19, u20, c21, c22, c23, c24, c25, c26, c27, c28, c29, c30, c31, c32, c33, c34, c35, c36, c37, c38, c39, c40, c41, c42, c43, c44, c45, c46, c47, c48, c49, c50, c51, c52, c53, c54, c55, c56, c57, c58, c59, c60, c61, c62, c63, c64, c65, c66, c67, c68, c69, c70, c71, c72, c73, c74, c75, c76, c77, c78, c79, c80, c81, c82, c83, c84, c85, c86, c87, c88, c89, c90, c91, c92, c93, c94, c95, c96, c97, c98, c99, c100, c101, c102, c103, c104, c105, c106, c107, c108, c109, c110, c111, c112, c113, c114, c115, c116, c117, c118, c119, c120, c121, c122, c123, c124, c125, c126, c127, c128, c129, c130, c131, c132, c133, c134, c135, c136, c137, c138, c139, c140, Value.slice pa PL pc, I (PL : Int), I 0, u144, u145, u146, u147, u148, u149, u150, u151, u152, u153, u154, u155, u156, u157, u158, u159, u160, u161, u162, u163, u164, u165, u166, u167, u168, u169, u170, u171, u172, u173, u174, u175, u176, u177, u178, u179, u180, u181, u182, u183, u184, u185, u186, u187, u188, u189, u190, u191, u192, u193, u194, u195, u196, u197, u198, u199, u200, u201, u202, u203, u204, u205, u206, u207, u208, u209, u210, u211, u212, c213, c214, c215, c216, c217, c218, c219, c220, c221, c222, c223, c224, c225, c226, c227, c228, c229, c230, c231, c232, c233, c234, c235, c236, c237, c238, c239, c240, c241, c242, c243, c244, c245, c246, c247, c248, c249, c250, c251, c252, c253, c254, c255, c256, c257, c258, c259, c260, c261, c262, c263, c264, c265, c266, c267, c268, c269, c270, c271, c272, c273, c274, c275, c276, c277, c278, c279, c280, c281, c282, c283, c284, c285, c286, c287, c288, c289, c290, c291, c292, c293, c294, c295, c296, c297, c298, c299, c300, c301, c302, c303, c304, c305, c306, c307, c308, c309, c310, c311, c312, c313, c314, c315, c316, c317, c318, c319, c320, c321, c322, c323, c324, c325, c326, c327, c328, c329, c330, c331, c332, c333, c334, c335, c336, c337, c338, c339, c340, c341, c342, c343, c344, c345, c346, c347, c348, c349, c350, c351, c352, c353, c354, c355, c356, c357, c358, c359, c360, c361, c362, c363, c364, c365, c366, c367, c368, c369, c370, c371, c372, c373, c374, c375, c376, c377, c378, c379, c380, c381, c382, c383, c384, c385, c386, c387, c388, c389, c390, c391, c392, c393, c394, c395, c396, c397, c398, c399, c400, c401, c402, c403, c404, c405, c406, c407, c408, c409, c410, c411, c412, c413, c414, c415, c416, c417, c418, c419, c420, c421, c422, c423, c424, c425, c426, c427, c428, c429, c430, c431, c432, c433, c434, c435, c436], []⟩ W5 := by
  have HS4 := Lib.hid (show RF4 W5 f i x (I 0) W5 from ⟨0, Nat.zero_le _, rfl, fun j _ h => absurd h (by omega), Below.refl _ _⟩)
  conv => arg 2; arg 1; whnf
  dsimp only
  go_loopw [143] (fun kv W => RF4 W5 f i x kv W) (fun kv _ => PL - (intOf kv).toNat)
  case atStart => exact HS4.out
  case round =>
    obtain ⟨k, hk, rfl, hps, hb0⟩ := hrel
    clear HS4
    by_cases hkP : k < PL
    · have kx : k < x.phis.length := by have := HXp.out; omega
      obtain ⟨pb, _, e1, pl, cw, av, dv, rfl, haz, hdz⟩ := (H5.out.2.2.2.below instV_stays hb0).at k kx
      subst e1
      obtain ⟨aa, ac, hav⟩ := haz.size
      obtain ⟨da, dc, hdv⟩ := hdz.size
      have hsi : SmI x.phis[k] := HXs.out _ (List.getElem_mem kx)
      obtain ⟨y, hy⟩ : ∃ y, y = x.phis[k] := ⟨_, rfl⟩
      rw [← hy] at cw haz hdz hsi hav hdv
      obtain ⟨A, hA⟩ : ∃ A, A = y.args.length := ⟨_, rfl⟩
      obtain ⟨D, hD⟩ : ∃ A, A = y.dbg.length := ⟨_, rfl⟩
      subst hav hdv
      have hAb : (A : Int) ≤ 1000000 := by have := hsi.al; omega
      obtain ⟨op, dst, imm, site, hyy⟩ : ∃ op dst imm site, y.op = op ∧ y.dst = dst ∧ y.imm = imm ∧ y.site = site := ⟨_, _, _, _, rfl, rfl, rfl, rfl⟩
      rw [hyy.1, hyy.2.1, hyy.2.2.1, hyy.2.2.2, ← hA, ← hD] at cw
      rw [← hA] at haz
      have c0 := cw.f0
      have c1 := cw.f1
      have c2 := cw.f2
      have c3 := cw.f3
      have c4 := cw.f4
      have c5 := cw.f5
      obtain ⟨W6, hW6⟩ : ∃ W, W = wr.alloc (.cells #[U8 op, I dst, .slice aa A ac, I imm, I site, .slice da D dc] 44) := ⟨_, rfl⟩
      obtain ⟨b6, hb6⟩ : ∃ b, b = wr.heap.size := ⟨_, rfl⟩
      have hB6 : Below wr.heap.size wr W6 := by rw [hW6]; exact (Below.refl _ _).alloc (Nat.le_refl _) _
      have k6 : Blk b6 #[U8 op, I dst, .slice aa A ac, I imm, I site, .slice da D dc] 44 W6 := by rw [hW6, hb6]; exact Blk.new _ _ _
      have z0 := k6.get 0 (U8 op) rfl
      have z1 := k6.get 1 (I dst) rfl
      have z2 := k6.get 2 (.slice aa A ac) rfl
      have hB56 := below_tr hb0 hB6
      have hk6 := (HK.out.below H5.out.1).below hB56
      have x0 := hk6.k3.get 0 (I f.params) rfl
      have x1 := hk6.k3.get 1 (I f.vars) rfl
      have x2 := hk6.k3.get 2 (I f.vals) rfl
      have x3 := hk6.k3.get 3 (.slice (some g1) n bc) rfl
      rw [HP.out.1] at x0
      rw [HP.out.2.1] at x1
      rw [HP.out.2.2.1] at x2
      obtain ⟨ra, rc, zr, hrow⟩ := (H5.out.2.2.1.below hB56).2 i HXb.out.2
      obtain ⟨m, hmm⟩ : ∃ m, m = (intoN f i).length := ⟨_, rfl⟩
      rw [← hmm] at zr
      have hPI : Hid (RPhi f i y ↔ ((op = 45 ∧ A = m) ∧ ((0 ≤ dst ∧ dst < vl) ∧ cnt (rMk f) dst = 1) ∧ ∀ k (h : k < y.args.length) (h' : k < (intoN f i).length), RMay f y.args[k] ((intoN f i)[k] : Int) (instLen f (intoN f i)[k]))) := by
        unfold Hid RPhi DstOk
        rw [hyy.1, hyy.2.1, HP.out.2.2.1, hA, hmm]
      have HN6 := Lib.hid (show ¬ RPhi f i y → ∀ W', Below W6.heap.size W6 W' → TellB (RFun c f) w (.returned (.bool false)) W' from fun hno W' hW' => HNB.out (fun h => hno (by rw [hy]; exact h.1 k kx)) W' (below_tr hB56 hW'))
      have HX6 := Lib.hid (show RPhi f i y → ∀ W', Below W6.heap.size W6 W' → RF4 W5 f i x (I ((k : Int) + 1)) W' from fun hyes W' hW' => ⟨k + 1, kx, rfl, fun j hj hjk => by
        rcases Nat.lt_or_ge j k with h | h
        · exact hps j hj h
        · obtain rfl : j = k := by omega
          rw [← hy]; exact hyes, below_tr hB56 hW'⟩)
      have H6 := Lib.hid (And.intro k6 (And.intro hB56 (And.intro (haz.below intV_stays hB6) (And.intro hA hmm))))
      have HKP := Lib.hid hkP
      have HW6 := Lib.hid (And.intro hW6 hb6)
      have HM6 := Lib.hid (fun nq => HM.out dst (W6.drewN nq) (below_drewN (below_tr H5.out.1 hB56) nq))
      have e0 : decide (k < PL) = true := by simpa using hkP
      have e1 : (0 : Int) ≤ (k : Int) := by omega
      have e2 : (k : Int) < (PL : Int) := by omega
      clear hps hb0 pl cw haz hdz hsi hA hD hyy hW6 hb6 hB6 k6 hB56 hk6 hrow hmm hkP hk hy kx
      go_upto_region 30 with (fail)
      rw [← HW6.out.2]
      change Code.wp _ _ _ _ (wr.alloc (.cells #[U8 op, I dst, .slice aa A ac, I imm, I site, .slice da D dc] 44))
      rw [← HW6.out.1]
      clear c0 c1 c2 c3 c4 c5
      by_cases p0 : op = 45
      case neg =>
        have g0 : (op != 45) = true := by simpa using p0
        have HF := Lib.hid (fun nq => HN6.out (fun h => p0 (hPI.out.1 h).1.1) (W6.drewN nq) (below_drewN (Below.refl _ _) nq))
        clear p0
        go_quiet (fail)
        go_wp2_with fail
        exact HRT.out _ _ rfl rfl (HF.out _)
      have g0 : (op != 45) = false := by simpa using p0
      by_cases p1 : (A : Int) = m
      case neg =>
        have g1 : ((A : Int) != (m : Int)) = true := by simpa using p1
        have HF := Lib.hid (fun nq => HN6.out (fun h => p1 (by have := (hPI.out.1 h).1.2; omega)) (W6.drewN nq) (below_drewN (Below.refl _ _) nq))
        clear p0 p1
        go_quiet (fail)
        go_wp2_with fail
        exact HRT.out _ _ rfl rfl (HF.out _)
      have g1 : ((A : Int) != (m : Int)) = false := by simpa using p1
      by_cases p2 : dst < 0
      case pos =>
        have g2 : decide (dst < 0) = true := decide_eq_true p2
        have HF := Lib.hid (fun nq => HN6.out (fun h => by have := (hPI.out.1 h).2.1.1; omega) (W6.drewN nq) (below_drewN (Below.refl _ _) nq))
        clear p0 p1 p2
        go_quiet (fail)
        go_wp2_with fail
        exact HRT.out _ _ rfl rfl (HF.out _)
      have g2 : decide (dst < 0) = false := decide_eq_false p2
      by_cases p3 : vl ≤ dst
      case pos =>
        have g3 : decide (vl ≤ dst) = true := decide_eq_true p3
        have HF := Lib.hid (fun nq => HN6.out (fun h => by have := (hPI.out.1 h).2.1.1; omega) (W6.drewN nq) (below_drewN (Below.refl _ _) nq))
        clear p0 p1 p2 p3
        go_quiet (fail)
        go_wp2_with fail
        exact HRT.out _ _ rfl rfl (HF.out _)
      have g3 : decide (vl ≤ dst) = false := decide_eq_false p3
      have HPP := Lib.hid (And.intro p0 (And.intro p1 (And.intro p2 p3)))
      clear p0 p1 p2 p3
      go_quiet (fail)
      go_wp2_with fail
      refine (HM6.out _).mono ?_
      rintro e w7 ⟨s, pb', pa', rfl, hsb, hT, hb7⟩
      have hb7' : Below W6.heap.size W6 w7 := below_tr (below_drewN (Below.refl _ _) nq) hb7
      obtain ⟨W9, hW9⟩ : ∃ W, W = w7.alloc (.cells #[I pb', I pa'] 75) := ⟨_, rfl⟩
      obtain ⟨b9, hb9⟩ : ∃ b, b = w7.heap.size := ⟨_, rfl⟩
      have hB9 : Below W6.heap.size W6 W9 := below_tr hb7' (by rw [hW9]; exact (Below.refl _ _).alloc (Nat.le_refl _) _)
      have z2' := (H6.out.1.below hB9 H6.out.1.lt).get 2 (.slice aa A ac) rfl
      have HW9 := Lib.hid (And.intro hW9 hb9)
      have H9 := Lib.hid (And.intro hB9 hT)
      clear z0 z1 z2 zr x0 x1 x2 x3 hsb hT hb7 hb7' hW9 hb9 hB9 g0 g1 g2 g3
      go_upto_region 33 with (fail)
      rw [← HW9.out.2]
      change Code.wp _ _ _ _ (w7.alloc (.cells #[I pb', I pa'] 75))
      rw [← HW9.out.1]
      by_cases hs1 : s = 1
      case neg =>
        have g4 : ((s : Int) != 1) = true := by simp; omega
        have HF := Lib.hid (HN6.out (fun h => hs1 (by rw [H9.out.2.1]; exact (hPI.out.1 h).2.1.2)) W9 H9.out.1)
        clear hs1
        go_wp2_with fail
        exact HRT.out _ _ rfl rfl HF.out
      have g4 : ((s : Int) != 1) = false := by simp; omega
      have HC1 := Lib.hid (show cnt (rMk f) dst = 1 by rw [← H9.out.2.1]; exact hs1)
      have HS5 := Lib.hid (show RF5 W9 f i y.args (I 0) W9 from ⟨0, Nat.zero_le _, rfl, fun j _ _ h => absurd h (by omega), Below.refl _ _⟩)
      clear hs1
      go_wp2_with fail
      clear z2' g4
      go_loopw [185] (fun kv W => RF5 W9 f i y.args kv W) (fun kv _ => A - (intOf kv).toNat)
      case atStart => exact HS5.out
      case round =>
        obtain ⟨q, hq, rfl, hus, hb1⟩ := hrel
        clear HS5
        by_cases hqA : q < A
        · have qx : q < y.args.length := by have := H6.out.2.2.2.1; omega
          have qm : q < (intoN f i).length := by have := H6.out.2.2.2.2; have := HPP.out.2.1; omega
          have hB := below_tr H9.out.1 hb1
          have hBB := below_tr H6.out.2.1 hB
          obtain ⟨gb, _, e1, pl, cw, rfl⟩ := (H6.out.2.2.1.below intV_stays hB).at q qx
          subst e1
          obtain ⟨v, hv⟩ : ∃ v, v = y.args[q] := ⟨_, rfl⟩
          have c0 := cw.f0
          rw [← hv, Nat.mul_one] at c0
          have hir := H5.out.2.2.1.below hBB
          obtain ⟨ra2, rc2, zr, hrow⟩ := hir.2 i HXb.out.2
          obtain ⟨rg, hrg, rgl, zq⟩ := hrow q qm
          subst hrg
          obtain ⟨p, hp⟩ : ∃ p, p = (intoN f i)[q] := ⟨_, rfl⟩
          rw [← hp] at zq
          have hpn : p < f.blocks.length := by rw [hp]; exact intoN_lt (List.getElem_mem qm)
          have hkw := (HK.out.below H5.out.1).below hBB
          have x0 := hkw.k3.get 0 (I f.params) rfl
          have x1 := hkw.k3.get 1 (I f.vars) rfl
          have x2 := hkw.k3.get 2 (I f.vals) rfl
          have x3 := hkw.k3.get 3 (.slice (some g1) n bc) rfl
          rw [HP.out.1] at x0
          rw [HP.out.2.1] at x1
          rw [HP.out.2.2.1] at x2
          obtain ⟨g9, _, e9, gl9, cw9, pv9, iv9, rfl, hpz9, hiz9⟩ := hkw.bb.at p hpn
          cases e9
          obtain ⟨ia9, ic9, hiv9⟩ := hiz9.size
          subst hiv9
          obtain ⟨L, hL⟩ : ∃ L, L = f.blocks[p].insts.length := ⟨_, rfl⟩
          have y1 := cw9.f1
          rw [← hL] at y1
          have hIL : instLen f p = (L : Int) := by
            unfold instLen
            rw [List.getElem?_eq_getElem hpn, hL]
          obtain ⟨r, hr⟩ : ∃ r : Bool, r = true ↔ RMay f v p L := by
            by_cases e : RMay f v p L
            · exact ⟨true, by simp [e]⟩
            · exact ⟨false, by simp [e]⟩
          have hdk := H5.out.2.1.below hBB
          have HC := Lib.hid (fun q : Regrown => tell_regrown (w := wr) hr (fun w' hb' => HY.out bo n v p (by have := HH.out.1; omega) (L : Int) w' (below_tr (below_tr H5.out.1 hBB) hb') (hdk.below hb')) q)
          have w0 : ∀ d os, (grow (redrawn wr d) os).cell? ⟨b3, 0, none⟩ = some (I pr) := fun d os => cell_regrown x0 d os
          have w1 : ∀ d os, (grow (redrawn wr d) os).cell? ⟨b3, 1, none⟩ = some (I vr) := fun d os => cell_regrown x1 d os
          have w2 : ∀ d os, (grow (redrawn wr d) os).cell? ⟨b3, 2, none⟩ = some (I vl) := fun d os => cell_regrown x2 d os
          have w3 : ∀ d os, (grow (redrawn wr d) os).cell? ⟨b3, 3, none⟩ = some (.slice (some g1) n bc) := fun d os => cell_regrown x3 d os
          have w4 : ∀ d os, (grow (redrawn wr d) os).cell? ⟨(g1.add (p * 6)).block, (g1.add (p * 6)).off + 1, none⟩ = some (.slice ia9 L ic9) := fun d os => cell_regrown y1 d os
          have HNO6 := Lib.hid (show ¬ RMay f v p L → ∀ W', Below wr.heap.size wr W' → TellB (RFun c f) w (.returned (.bool false)) W' from fun hno W' hW' => HN6.out (fun h => hno (by have h9 := (hPI.out.1 h).2.2 q qx qm; rw [← hv, ← hp, hIL] at h9; exact h9)) W' (below_tr hB hW'))
          have HNX6 := Lib.hid (show RMay f v p L → ∀ W', Below wr.heap.size wr W' → RF5 W9 f i y.args (I ((q : Int) + 1)) W' from fun hyes W' hW' => ⟨q + 1, qx, rfl, fun j hj hj' hjk => by
            rcases Nat.lt_or_ge j q with h | h
            · exact hus j hj hj' h
            · obtain rfl : j = q := by omega
              rw [← hv, ← hp, hIL]; exact hyes, below_tr hb1 hW'⟩)
          have HKq := Lib.hid hqA
          have HR := Lib.hid hr
          rw [← H6.out.2.2.2.2] at zr
          have f0 : decide (q < A) = true := by simpa using hqA
          have f1 : (0 : Int) ≤ (q : Int) := by omega
          have f2 : (q : Int) < (A : Int) := by omega
          have f3 : (q : Int) < (m : Int) := by have := HPP.out.2.1; omega
          have f4 : (0 : Int) ≤ (p : Int) := by omega
          have f5 : (p : Int) < (n : Int) := by have := HH.out.1; omega
          clear hus hb1 hB hBB pl cw hir hrow rgl hp hpn hkw gl9 cw9 hpz9 hiz9 hL hIL hr hdk hqA hq hv qm qx x0 x1 x2 x3 y1
          go_upto_region 39 with (fail)
          clear c0 zr zq
          refine wp_region_quiet_below (by kernel_rfl) (by kernel_rfl) ?_
          cases r
          · repeat (go_big_quiet_step (first | with_reducible exact HC.out _))
            refine wpQuiet_nil ?_
            intro _ hw'
            obtain ⟨⟨dq, osq⟩, hw''⟩ := hw'
            subst hw''
            have HF := Lib.hid (HNO6.out (fun h => absurd (HR.out.2 h) (by decide)) _ (below_regrown wr dq osq))
            clear w0 w1 w2 w3 w4
            go_wp2_with fail
            exact HRT.out _ _ rfl rfl HF.out
          · repeat (go_big_quiet_step (first | with_reducible exact HC.out _))
            refine wpQuiet_nil ?_
            intro _ hw'
            obtain ⟨⟨dq, osq⟩, hw''⟩ := hw'
            subst hw''
            have HF := Lib.hid (HNX6.out (HR.out.1 rfl) _ (below_regrown wr dq osq))
            clear w0 w1 w2 w3 w4
            go_wp2_with fail
            exact ⟨HF.out, by have := HKq.out; simp [intOf]; omega⟩
        · have f0 : decide (q < A) = false := by simpa using hqA
          have HF := Lib.hid (HX6.out (hPI.out.2 ⟨⟨HPP.out.1, by have := HPP.out.2.1; omega⟩, ⟨⟨by have := HPP.out.2.2.1; omega, by have := HPP.out.2.2.2; omega⟩, HC1.out⟩, fun j hj hj' => hus j hj hj' (by have := H6.out.2.2.2.1; omega)⟩) wr (below_tr H9.out.1 hb1))
          clear hus hb1 hqA hq
          go_wp2_with fail
          exact ⟨HF.out, by have := HKP.out; simp [intOf]; omega⟩
    · have e0 : decide (k < PL) = false := by simpa using hkP
      have hkE : k = PL := by have := HXp.out; omega
      subst hkE
      have HPS := Lib.hid (show ∀ j (h : j < x.phis.length), RPhi f i x.phis[j] from fun j hj => hps j hj (by have := HXp.out; omega))
      have HB0 := Lib.hid hb0
      clear hps hb0 hkP hk
      go_wp2_with fail
      exact HEX.out _ _ _ _ _ _ _ _ _ _ _ _ _ _ _ _ _ _ _ _ _ _ _ _ _ _ _ _ _ _ _ _ _ _ _ _ _ _ _ _ _ _ _ _ _ _ _ _ _ _ _ _ _ _ _ _ _ _ _ _ _ _ _ _ _ _ _ _ _ _ _ _ _ _ _ _ _ HPS.out HB0.out
end Go.Proofs.Ytjlmkcamefaodaa
