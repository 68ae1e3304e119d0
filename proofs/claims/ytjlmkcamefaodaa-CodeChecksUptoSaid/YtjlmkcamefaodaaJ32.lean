/-
  Joined: KZ.
-/
import Derived.Test.YtjlmkcamefaodaaJ31
/-! KZ: Is code right: the walk. -/

namespace Go.Proofs.Ytjlmkcamefaodaa
open Go Go.RowKit Go.Maps Go.Sort Cd Fl

/-- What is small of all of a code's functions. -/
structure SmA (c : CodeP) : Prop where
  sm : SmC c
  fs : ∀ i (h : i < c.funs.length), c.funs[i].blocks.length ≤ 150 ∧ SmF c.funs[i]
def RS1 (w : World) (c : CodeP) (iv : Value) (W : World) : Prop := ∃ i : Nat, i ≤ c.stops.length ∧ iv = I (i : Int) ∧ (∀ j (h : j < c.stops.length), j < i → c.stops[j] ≠ []) ∧ W = w
def RS2 (w : World) (c : CodeP) (iv : Value) (W : World) : Prop := ∃ i : Nat, i ≤ c.funs.length ∧ iv = I (i : Int) ∧ (∀ j (h : j < c.funs.length), j < i → FunOk c c.funs[j]) ∧ Below w.heap.size w W
theorem grBel {B m : Nat} {w w' : World} (h : w.grownBy w' (some m)) (hB : B ≤ w.heap.size) (hm : B ≤ m) : Below B w w' := ⟨h.os, h.tape, h.output, h.size, fun k hk => h.block k (Nat.lt_of_lt_of_le hk hB) (by simp; omega)⟩

theorem MadeW.grownO {bm m n : Nat} {g : Int → Option (Int × Int)} {w w' : World} (h : MadeW bm g n w) (hg : w.grownBy w' (some m)) (hne : bm ≠ m) : MadeW bm g n w' := by
  obtain ⟨D, h1, h2⟩ := h
  exact ⟨D, h1.kept hg (by simpa using hne), h2⟩
theorem ForK.grownO {p z m : Nat} {f : FunP} {P : List Int} {S : List Nat} {w w' : World} (h : ForK p z f P S w) (hg : w.grownBy w' (some m)) (hp : p ≠ m) (hz : z ≠ m) : ForK p z f P S w' :=
  ⟨h.kp.other hg (by simpa using hp), h.kz.other hg (by simpa using hz), h.len, h.hP, h.hS, h.ov⟩

set_option maxRecDepth 100000 in
set_option maxHeartbeats 3200000 in
theorem isRight_any (v : Value) (c : CodeP) (hs : SmA c) (w : World) (h : CodeZ w v c) :
    Calls Try.prog 20 #[v] w fun e w' => TellB (RightC c) w e w' := by
  obtain ⟨fv, sv, rfl, hf, hst⟩ := h
  obtain ⟨fa, fc, rfl⟩ := hf.size
  obtain ⟨sa, sc, rfl⟩ := hst.size
  obtain ⟨F, hF⟩ : ∃ F, F = c.funs.length := ⟨_, rfl⟩
  obtain ⟨T, hT⟩ : ∃ F, F = c.stops.length := ⟨_, rfl⟩
  obtain ⟨mn, hmn⟩ : ∃ m, m = c.main := ⟨_, rfl⟩
  rw [← hF] at hf
  rw [← hT] at hst
  have hFb : (F : Int) ≤ 1000000 := by have := hs.sm.fl; omega
  have hTb : (T : Int) ≤ 1000000 := by have := hs.sm.st.1; omega
  obtain ⟨W1, hW1⟩ : ∃ W, W = w.alloc (.cells #[.slice fa F fc, .slice sa T sc, I mn] 25) := ⟨_, rfl⟩
  obtain ⟨b1, hb1⟩ : ∃ b, b = w.heap.size := ⟨_, rfl⟩
  have hB1 : Below w.heap.size w W1 := by rw [hW1]; exact (Below.refl _ _).alloc (Nat.le_refl _) _
  have k1 : Blk b1 #[.slice fa F fc, .slice sa T sc, I mn] 25 W1 := by rw [hW1, hb1]; exact Blk.new _ _ _
  have hf1 := hf.below funV_stays hB1
  have hs1 := hst.below stopV_stays hB1
  have x0 := k1.get 0 (.slice fa F fc) rfl
  have x1 := k1.get 1 (.slice sa T sc) rfl
  have x2 := k1.get 2 (I mn) rfl
  have HH := Lib.hid (And.intro hF (And.intro hT (And.intro hmn (And.intro hs (And.intro hB1 (And.intro k1 (And.intro hf1 hs1)))))))
  have HW1 := Lib.hid (And.intro hW1 hb1)
  have HNO := Lib.hid (show ¬ RightC c → ∀ W', Below W1.heap.size W1 W' → TellB (RightC c) w (.returned (.bool false)) W' from fun hno W' hW' => ⟨false, rfl, by simp only [Bool.false_eq_true, false_iff]; exact hno, below_tr hB1 hW'⟩)
  have HM : Hid (MainOk c ↔ 0 ≤ mn ∧ mn < (F : Int) ∧ ∀ (h : c.main.toNat < c.funs.length), c.funs[c.main.toNat].params = 0) := by
    unfold Hid MainOk
    rw [hmn, hF]
  rw [← hF, ← hT, ← hmn]
  have HMN := Lib.hid hmn
  clear hF hT hs hB1 k1 hf1 hs1 hW1 hb1 hf hst hmn
  go_enter Try.func20, Try.ntmps20
  go_upto_region 1 with (fail)
  rw [← HW1.out.2]
  change Code.wp _ _ _ _ (w.alloc (.cells #[.slice fa F fc, .slice sa T sc, I mn] 25))
  rw [← HW1.out.1]
  by_cases m0 : mn < 0
  · have g0 : decide (mn < 0) = true := decide_eq_true m0
    have HF := Lib.hid (HNO.out (fun h => by have := (HM.out.1 h.1).1; omega) W1 (Below.refl _ _))
    clear m0
    go_wp2_with fail
    go_ret
    exact HF.out
  · have g0 : decide (mn < 0) = false := decide_eq_false m0
    by_cases m1 : (F : Int) ≤ mn
    · have g1 : decide ((F : Int) ≤ mn) = true := decide_eq_true m1
      have HF := Lib.hid (HNO.out (fun h => by have := (HM.out.1 h.1).2.1; omega) W1 (Below.refl _ _))
      clear m0 m1
      go_wp2_with fail
      go_ret
      exact HF.out
    · have g1 : decide ((F : Int) ≤ mn) = false := decide_eq_false m1
      obtain ⟨q, rfl⟩ : ∃ q : Nat, mn = (q : Int) := ⟨mn.toNat, by omega⟩
      have hq : q < c.funs.length := by have := HH.out.1; omega
      obtain ⟨bb, _, hfa, hbB, cw, bv', hbv', hbl'⟩ := HH.out.2.2.2.2.2.2.1.at q hq
      subst hfa hbv'
      have cp := cw.f0
      obtain ⟨P, hP⟩ : ∃ P, P = c.funs[q].params := ⟨_, rfl⟩
      rw [← hP] at cp
      have e1 : (0 : Int) ≤ (q : Int) := by omega
      have e2 : (q : Int) < (F : Int) := by omega
      have hcm : c.main.toNat = q := by rw [← HMN.out]; exact Int.toNat_natCast q
      by_cases m2 : P = 0
      · have g2 : (P != 0) = false := by simpa using m2
        have hMain : Hid (MainOk c) := HM.out.2 ⟨by omega, by omega, fun h => by simp only [hcm]; rw [← hP]; exact m2⟩
        have HST := Lib.hid (show RS1 W1 c (I 0) W1 from ⟨0, Nat.zero_le _, rfl, fun j _ h => absurd h (by omega), rfl⟩)
        clear m0 m1 m2 hcm hP cw hbB hbl' hq
        go_wp2_with fail
        clear cp g0 g1 g2 e1 e2
        go_loopw [32] (fun iv W => RS1 W1 c iv W) (fun iv _ => T - (intOf iv).toNat)
        case atStart => exact HST.out
        case round =>
          obtain ⟨i, hi, rfl, hss, rfl⟩ := hrel
          clear HST
          by_cases hin : i < T
          · have il : i < c.stops.length := by have := HH.out.2.1; omega
            obtain ⟨b, _, hsa, hbB, cw, sv', hsv', hsp⟩ := HH.out.2.2.2.2.2.2.2.at i il
            subst hsa hsv'
            obtain ⟨pa, pc, rfl⟩ := hsp.size
            obtain ⟨m, hm⟩ : ∃ m, m = c.stops[i].length := ⟨_, rfl⟩
            have cs := cw.f0
            rw [Nat.mul_one, ← hm] at cs
            have d0 : decide (i < T) = true := by simpa using hin
            have d1 : (0 : Int) ≤ (i : Int) := by omega
            have d2 : (i : Int) < (T : Int) := by omega
            by_cases hm0 : m = 0
            · have g3 : ((m : Int) == 0) = true := by simp; omega
              have HF := Lib.hid (HNO.out (fun h => h.2.1 i il (List.length_eq_zero_iff.1 (by omega))) wr (Below.refl _ _))
              clear hss cw hbB hsp hm hin hi hm0 il
              go_wp2_with fail
              go_ret
              exact HF.out
            · have g3 : ((m : Int) == 0) = false := by simp; omega
              have HF := Lib.hid (show RS1 wr c (I ((i : Int) + 1)) wr from ⟨i + 1, il, rfl, fun j hj hji => by
                rcases Nat.lt_or_ge j i with h | h
                · exact hss j hj h
                · obtain rfl : j = i := by omega
                  exact fun e => hm0 (by rw [hm, e]; rfl), rfl⟩)
              have HI := Lib.hid hin
              clear hss cw hbB hsp hm hin hi hm0 il
              go_wp2_with fail
              exact ⟨HF.out, by have := HI.out; simp [intOf]; omega⟩
          · have d0 : decide (i < T) = false := by simpa using hin
            obtain ⟨W1, rfl⟩ : ∃ W1 : World, W1 = wr := ⟨_, rfl⟩
            have HSS := Lib.hid (show ∀ j (h : j < c.stops.length), c.stops[j] ≠ [] from fun j hj => hss j hj (by have := HH.out.2.1; omega))
            have HS2 := Lib.hid (show RS2 W1 c (I 0) W1 from ⟨0, Nat.zero_le _, rfl, fun j _ h => absurd h (by omega), Below.refl _ _⟩)
            clear hss hin hi
            go_wp2_with fail
            clear x0 x1 x2
            go_loopw [43] (fun iv W => RS2 W1 c iv W) (fun iv _ => F - (intOf iv).toNat)
            case atStart => exact HS2.out
            case round =>
              obtain ⟨i, hi, rfl, hfs, hb⟩ := hrel
              clear HS2
              by_cases hin : i < F
              · have il : i < c.funs.length := by have := HH.out.1; omega
                obtain ⟨b, _, hfa, hbB, cw, bv, hbv, hbl⟩ := (HH.out.2.2.2.2.2.2.1.below funV_stays hb).at i il
                cases hfa
                subst hbv
                obtain ⟨ba, bc, hbs⟩ := hbl.size
                obtain ⟨f, hf⟩ : ∃ f, f = c.funs[i] := ⟨_, rfl⟩
                rw [← hf] at cw hbl hbs
                have hsf := HH.out.2.2.2.1.fs i il
                rw [← hf] at hsf
                obtain ⟨n, hn⟩ : ∃ n, n = f.blocks.length := ⟨_, rfl⟩
                rw [← hn] at hbs
                subst hbs
                obtain ⟨pr, vr, vl, hpp⟩ : ∃ a b d, f.params = a ∧ f.vars = b ∧ f.vals = d := ⟨_, _, _, rfl, rfl, rfl⟩
                rw [hpp.1, hpp.2.1, hpp.2.2] at cw
                have c0 := cw.f0
                have c1 := cw.f1
                have c2 := cw.f2
                have c3 := cw.f3
                have k1 := HH.out.2.2.2.2.2.1.below hb HH.out.2.2.2.2.2.1.lt
                obtain ⟨W6, hW6⟩ : ∃ W, W = wr.alloc (.cells #[I pr, I vr, I vl, .slice ba n bc] 36) := ⟨_, rfl⟩
                obtain ⟨W7, hW7⟩ : ∃ W, W = W6.alloc (.map #[] 0) := ⟨_, rfl⟩
                obtain ⟨W8, hW8⟩ : ∃ W, W = W7.alloc (.cells #[I pr, I vr, I vl, .slice ba n bc, .slice (some bb) F fc, .slice sa T sc, I (q : Int), .slice none 0 0, .slice none 0 0, .slice none 0 0, .map (some (wr.heap.size + 1))] 66) := ⟨_, rfl⟩
                obtain ⟨b6, hb6⟩ : ∃ b, b = wr.heap.size := ⟨_, rfl⟩
                obtain ⟨bm, hbm⟩ : ∃ b, b = wr.heap.size + 1 := ⟨_, rfl⟩
                obtain ⟨bk, hbk⟩ : ∃ b, b = wr.heap.size + 1 + 1 := ⟨_, rfl⟩
                have hB6 : Below wr.heap.size wr W6 := by rw [hW6]; exact (Below.refl _ _).alloc (Nat.le_refl _) _
                have hB7 : Below W6.heap.size W6 W7 := by rw [hW7]; exact (Below.refl _ _).alloc (Nat.le_refl _) _
                have hB8 : Below W7.heap.size W7 W8 := by rw [hW8]; exact (Below.refl _ _).alloc (Nat.le_refl _) _
                have hs6 : W6.heap.size = wr.heap.size + 1 := by rw [hW6]; simp
                have hs7 : W7.heap.size = wr.heap.size + 1 + 1 := by rw [hW7]; simp [hs6]
                have k6 : Blk b6 #[I pr, I vr, I vl, .slice ba n bc] 36 W6 := by rw [hW6, hb6]; exact Blk.new _ _ _
                have hck : CkZ wr.heap.size bk bm (.slice ba n bc) (.slice (some bb) F fc) (.slice sa T sc) (.slice none 0 0) (.slice none 0 0) (.slice none 0 0) c f W8 := by
                  have hB68 := below_tr hB6 (below_tr hB7 hB8)
                  have he : ∀ k, k < wr.heap.size → W8.heap[k]? = wr.heap[k]? := fun k hk => hB68.block k hk
                  refine ⟨?_, hbl.keep blockV_stays he (fun k hk => hk), (HH.out.2.2.2.2.2.2.1.below funV_stays hb).keep funV_stays he (fun k hk => hk), (HH.out.2.2.2.2.2.2.2.below stopV_stays hb).keep stopV_stays he (fun k hk => hk), ⟨by omega, by omega, by omega⟩, hB68.size⟩
                  rw [hpp.1, hpp.2.1, hpp.2.2, ← HMN.out, hW8, hbk, hbm]
                  exact Blk.new' _ _ _ hs7.symm
                have hmd : MadeW bm (mapOf []) 0 W8 := by
                  refine ⟨.map [], ?_, MadeIs.none⟩
                  rw [hW8, hW7, hbm, ← hs6]
                  exact (World.ownsMap_made W6 Try.prog 3 placeR).alloc _
                have hB08 := below_tr hB6 (below_tr hB7 hB8)
                have HNF := Lib.hid (show ¬ FunOk c f → ∀ W', Below wr.heap.size wr W' → TellB (RightC c) w (.returned (.bool false)) W' from fun hno W' hW' => HNO.out (fun h => hno (by rw [hf]; exact h.2.2 i il)) W' (below_tr hb hW'))
                have HNX := Lib.hid (show FunOk c f → ∀ W', Below wr.heap.size wr W' → RS2 W1 c (I ((i : Int) + 1)) W' from fun hy W' hW' => ⟨i + 1, il, rfl, fun j hj hji => by
                  rcases Nat.lt_or_ge j i with h | h
                  · exact hfs j hj h
                  · obtain rfl : j = i := by omega
                    rw [← hf]; exact hy, below_tr hb hW'⟩)
                have HK := Lib.hid (And.intro hck (And.intro hmd (And.intro hB08 (And.intro hsf (And.intro hin (And.intro hn (And.intro hbm hbk)))))))
                have hC1 := Lib.hid (hasSizes_any wr.heap.size bk bm (.slice ba n bc) (.slice (some bb) F fc) (.slice sa T sc) (.slice none 0 0) (.slice none 0 0) (.slice none 0 0) c f W8 hck)
                have z0 := k6.get 0 (I pr) rfl
                have z1 := k6.get 1 (I vr) rfl
                have z2 := k6.get 2 (I vl) rfl
                have z3 := k6.get 3 (.slice ba n bc) rfl
                have y0 := (k1.below hB6 k1.lt).get 0 (.slice (some bb) F fc) rfl
                have y1 := (k1.below hB6 k1.lt).get 1 (.slice sa T sc) rfl
                have y2 := (k1.below hB6 k1.lt).get 2 (I (q : Int)) rfl
                have HW := Lib.hid (And.intro hW6 (And.intro hb6 (And.intro hW7 (And.intro hW8 (And.intro hbm (And.intro hbk (And.intro hs6 hs7)))))))
                have d0 : decide (i < F) = true := by simpa using hin
                have d1 : (0 : Int) ≤ (i : Int) := by omega
                have d2 : (i : Int) < (F : Int) := by omega
                have hmm := @run_makeMap Try.prog
                clear hfs hb hbB cw hbl hf hsf hpp k1 hW6 hW7 hW8 hb6 hbm hbk hB6 hB7 hB8 hs6 hs7 k6 hck hmd hB08 hin hi il hn
                go_upto_region 12 with (fail)
                rw [← HW.out.2.1]
                change Code.wp _ _ _ _ (wr.alloc (.cells #[I pr, I vr, I vl, .slice ba n bc] 36))
                rw [← HW.out.1]
                clear c0 c1 c2 c3
                go_upto_region 13 with (fail)
                clear z0 z1 z2 z3 y0 y1 y2 hmm
                have hbm6 : bm = W6.heap.size := by rw [HW.out.2.2.2.2.2.2.1]; exact HW.out.2.2.2.2.1
                have hbk6 : bk = W6.heap.size + 1 := by rw [HW.out.2.2.2.2.2.2.1]; exact HW.out.2.2.2.2.2.1
                have e8 : W8 = (W6.alloc (.map #[] 0)).alloc (.cells #[I pr, I vr, I vl, .slice ba n bc, .slice (some bb) F fc, .slice sa T sc, I (q : Int), .slice none 0 0, .slice none 0 0, .slice none 0 0, .map (some W6.heap.size)] 66) := by
                  rw [HW.out.2.2.2.1, HW.out.2.2.1, HW.out.2.2.2.2.2.2.1]
                have H8 := Lib.hid (And.intro hbm6 (And.intro hbk6 e8))
                clear hbm6 hbk6 e8
                rw [← H8.out.2.1]
                change Code.wp _ _ _ _ ((W6.alloc (.map #[] 0)).alloc (.cells #[I pr, I vr, I vl, .slice ba n bc, .slice (some bb) F fc, .slice sa T sc, I (q : Int), .slice none 0 0, .slice none 0 0, .slice none 0 0, .map (some W6.heap.size)] 66))
                rw [← H8.out.2.2]
                go_wp2_with fail
                refine hC1.out.mono ?_
                rintro e w9 ⟨r, rfl, hr, hb9⟩
                cases r
                · have HF := Lib.hid (HNF.out (fun h => absurd (hr.2 h.1) (by decide)) w9 (below_tr HK.out.2.2.1 hb9))
                  clear hr hb9
                  go_wp2_with fail
                  go_ret
                  exact HF.out
                · have hsz := hr.1 rfl
                  have hbm9 : bm < w9.heap.size := Nat.lt_of_lt_of_le (by obtain ⟨D, h1, _⟩ := HK.out.2.1; exact h1.lt) hb9.size
                  have hC2 := Lib.hid (hasWays_any wr.heap.size bk bm (.slice ba n bc) (.slice (some bb) F fc) (.slice sa T sc) (.slice none 0 0) (.slice none 0 0) (.slice none 0 0) c f HK.out.2.2.2.1.1 hsz.2.2.2.1 w9 (HK.out.1.below hb9) hbm9)
                  have H9 := Lib.hid (And.intro hsz hb9)
                  clear hr hb9 hsz hbm9
                  go_wp2_with fail
                  refine hC2.out.mono ?_
                  rintro e w10 ⟨r, rfl, hr, hwk, hg10⟩
                  have hlo := HK.out.1.lo
                  have hB10 : Below wr.heap.size wr w10 := (below_tr HK.out.2.2.1 H9.out.2).trans (grBel hg10 (Nat.le_trans HK.out.2.2.1.size H9.out.2.size) hlo.1)
                  cases r
                  · have HF := Lib.hid (HNF.out (fun h => absurd (hr.2 h.2.1) (by decide)) w10 hB10)
                    clear hr hwk hg10 hlo hB10
                    go_wp2_with fail
                    go_ret
                    exact HF.out
                  · obtain ⟨bl, p, z, P', S', hk⟩ := hwk rfl
                    have hm10 : MadeW bm (mapOf []) 0 w10 := (HK.out.2.1.kept' H9.out.2).grownO hg10 (Ne.symm hlo.2.2)
                    have hC3 := Lib.hid (hasShapes_any wr.heap.size bk bm bl f.blocks.length (.slice ba n bc) (.slice (some bb) F fc) (.slice sa T sc) (.slice (some ⟨p, 0, none⟩) f.blocks.length f.blocks.length) (.slice (some ⟨z, 0, none⟩) f.blocks.length f.blocks.length) c f HH.out.2.2.2.1.sm HK.out.2.2.2.1.2 H9.out.1 w10 hk.ck hm10 hk.it)
                    have H10 := Lib.hid (And.intro (hr.1 rfl) (And.intro hk (And.intro hB10 hlo)))
                    clear hr hwk hg10 hlo hB10 hk hm10
                    go_wp2_with fail
                    refine hC3.out.mono ?_
                    rintro e w11 ⟨r, rfl, hr, hmk, hg11⟩
                    have hB11 : Below wr.heap.size wr w11 := H10.out.2.2.1.trans (grBel hg11 H10.out.2.2.1.size H10.out.2.2.2.2.1)
                    cases r
                    · have HF := Lib.hid (HNF.out (fun h => absurd (hr.2 h.2.2.1) (by decide)) w11 hB11)
                      clear hr hmk hg11 hB11
                      go_wp2_with fail
                      go_ret
                      exact HF.out
                    · have hk := H10.out.2.1
                      have hC4 := Lib.hid (hasUses_any (P := P') (S := S') HK.out.2.2.2.1.2 (hr.1 rfl) w11 ⟨hk.ck.grown hg11, hmk rfl, hk.it.grown hg11, hk.fo.grownO hg11 hk.pm.1 hk.pm.2, (hr.1 rfl).2, by have := HK.out.2.2.2.1.1; omega⟩)
                      have H11 := Lib.hid (And.intro (hr.1 rfl) hB11)
                      clear hr hmk hg11 hB11 hk
                      go_wp2_with fail
                      refine hC4.out.mono ?_
                      rintro e w12 ⟨r, rfl, hr, hb12⟩
                      cases r
                      · have HF := Lib.hid (HNF.out (fun h => absurd (hr.2 h.2.2.2) (by decide)) w12 (below_tr H11.out.2 hb12))
                        clear hr hb12
                        go_wp2_with fail
                        go_ret
                        exact HF.out
                      · have HF := Lib.hid (HNX.out ⟨H9.out.1, H10.out.1, H11.out.1, hr.1 rfl⟩ w12 (below_tr H11.out.2 hb12))
                        clear hr hb12
                        go_wp2_with fail
                        exact ⟨HF.out, by have := HK.out.2.2.2.2.1; simp [intOf]; omega⟩
              · have d0 : decide (i < F) = false := by simpa using hin
                have HF := Lib.hid (show TellB (RightC c) w (.returned (.bool true)) wr from ⟨true, rfl, by simp only [true_iff]; exact ⟨hMain.out, HSS.out, fun j hj => hfs j hj (by have := HH.out.1; omega)⟩, below_tr HH.out.2.2.2.2.1 hb⟩)
                clear hfs hb hin hi
                go_wp2_with fail
                go_ret
                exact HF.out
      · have g2 : (P != 0) = true := by simpa using m2
        have HF := Lib.hid (HNO.out (fun h => m2 (by have h3 := (HM.out.1 h.1).2.2 (by rw [hcm]; exact hq); simp only [hcm] at h3; rw [hP]; exact h3)) W1 (Below.refl _ _))
        clear m0 m1 m2 hcm hP cw hbB hbl' hq
        go_wp2_with fail
        all_goals go_ret
        all_goals exact HF.out
end Go.Proofs.Ytjlmkcamefaodaa
