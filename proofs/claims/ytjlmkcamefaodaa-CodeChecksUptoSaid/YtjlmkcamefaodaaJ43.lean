/-
  Joined: RCk, RPl.
-/
import Derived.Test.YtjlmkcamefaodaaJ42
/-! RCk: Check: the document's own answer, walked. -/

namespace Go.Proofs.Ytjlmkcamefaodaa
open Go Go.RowKit Go.Maps Go.Sort Cd Fl

set_option maxRecDepth 100000 in
set_option maxHeartbeats 3200000 in
theorem refCheck_any (v : Value) (c : CodeP) (hT0 : totN c ≤ 4000000) (h4 : sizeC c ≤ 40000) (hs : SmA c) (w : World) (h : CodeZ w v c) :
    Calls Try.prog 9 #[v] w fun e w' => TellE (RightC c) w e w' := by
  have h' := h
  obtain ⟨fv, sv, rfl, hf, hst⟩ := h'
  obtain ⟨fa, fc, rfl⟩ := hf.size
  obtain ⟨sa, sc, rfl⟩ := hst.size
  obtain ⟨F, hF⟩ : ∃ F, F = c.funs.length := ⟨_, rfl⟩
  obtain ⟨T, hT⟩ : ∃ F, F = c.stops.length := ⟨_, rfl⟩
  obtain ⟨mn, hmn⟩ : ∃ m, m = c.main := ⟨_, rfl⟩
  rw [← hF] at hf
  rw [← hT] at hst
  have hFb : (F : Int) ≤ 1000000 := by have := hs.sm.fl; omega
  have hTb : (T : Int) ≤ 1000000 := by have := hs.sm.st.1; omega
  rw [← hF, ← hT, ← hmn] at h ⊢
  obtain ⟨W0, hW0⟩ : ∃ W, W = w.alloc (.cells #[.slice fa F fc, .slice sa T sc, I mn] 25) := ⟨_, rfl⟩
  obtain ⟨b1, hb1⟩ : ∃ b, b = w.heap.size := ⟨_, rfl⟩
  have hB0 : Below w.heap.size w W0 := by rw [hW0]; exact (Below.refl _ _).alloc (Nat.le_refl _) _
  have k0 : Blk b1 #[.slice fa F fc, .slice sa T sc, I mn] 25 W0 := by rw [hW0, hb1]; exact Blk.new _ _ _
  have x0 := k0.get 0 (.slice fa F fc) rfl
  have x1 := k0.get 1 (.slice sa T sc) rfl
  have x2 := k0.get 2 (I mn) rfl
  have hC1 := Lib.hid (refSize_any _ c hT0 W0 (h.below hB0))
  obtain ⟨sz, hsz⟩ : ∃ s, s = sizeC c := ⟨_, rfl⟩
  rw [← hsz] at hC1 h4
  have g9 : decide ((40000 : Int) < (sz : Int)) = false := by simp; omega
  have H0 := Lib.hid (And.intro hf (And.intro hst (And.intro hB0 (And.intro k0 (And.intro hF (And.intro hT (And.intro hmn hs)))))))
  have HW0 := Lib.hid (And.intro hW0 hb1)
  clear hB0 k0 hW0 hb1 h hsz h4 hT0 hf hst hF hT hmn hs
  go_enter Try.func9, Try.ntmps9
  go_upto_region 1 with (fail)
  rw [← HW0.out.2]
  change Code.wp _ _ _ _ (w.alloc (.cells #[.slice fa F fc, .slice sa T sc, I mn] 25))
  rw [← HW0.out.1]
  go_wp2_with fail
  refine hC1.out.mono ?_
  rintro e W1 ⟨rfl, hb2⟩
  clear x0 x1 x2
  have hF := H0.out.2.2.2.2.1
  have hT := H0.out.2.2.2.2.2.1
  have hmn := H0.out.2.2.2.2.2.2.1
  have hs := H0.out.2.2.2.2.2.2.2
  have hB1 := below_tr H0.out.2.2.1 hb2
  have k1 := H0.out.2.2.2.1.below hb2 H0.out.2.2.2.1.lt
  have hf1 := H0.out.1.below funV_stays hB1
  have hs1 := H0.out.2.1.below stopV_stays hB1
  have x0 := k1.get 0 (.slice fa F fc) rfl
  have x1 := k1.get 1 (.slice sa T sc) rfl
  have x2 := k1.get 2 (I mn) rfl
  have HH := Lib.hid (And.intro hF (And.intro hT (And.intro hmn (And.intro hs (And.intro hB1 (And.intro k1 (And.intro hf1 hs1)))))))
  have HNO := Lib.hid (show ¬ RightC c → ∀ W', Below W1.heap.size W1 W' → TellE (RightC c) w (.returned (I 3)) W' from fun hno W' hW' => ⟨false, rfl, by simp only [Bool.false_eq_true, false_iff]; exact hno, below_tr hB1 hW'⟩)
  have HM : Hid (MainOk c ↔ 0 ≤ mn ∧ mn < (F : Int) ∧ ∀ (h : c.main.toNat < c.funs.length), c.funs[c.main.toNat].params = 0) := by
    unfold Hid MainOk
    rw [hmn, hF]
  have HMN := Lib.hid hmn
  clear hF hT hs hB1 k1 hf1 hs1 hmn hb2
  by_cases m0 : mn < 0
  · have g0 : decide (mn < 0) = true := decide_eq_true m0
    have HF := Lib.hid (HNO.out (fun h => by have := (HM.out.1 h.1).1; omega) W1 (Below.refl _ _))
    clear m0
    go_wp2_with fail
    go_ret
    exact HF.out
  · have g0 : decide (mn < 0) = false := decide_eq_false m0
    by_cases m1 : (F : Int) ≤ mn
    · have g1 : decide ((F : Int) ≤ mn) = true := decide_eq_true m1
      have HF := Lib.hid (HNO.out (fun h => by have := (HM.out.1 h.1).2.1; omega) W1 (Below.refl _ _))
      clear m0 m1
      go_wp2_with fail
      go_ret
      exact HF.out
    · have g1 : decide ((F : Int) ≤ mn) = false := decide_eq_false m1
      obtain ⟨q, rfl⟩ : ∃ q : Nat, mn = (q : Int) := ⟨mn.toNat, by omega⟩
      have hq : q < c.funs.length := by have := HH.out.1; omega
      obtain ⟨bb, _, hfa, hbB, cw, bv', hbv', hbl'⟩ := HH.out.2.2.2.2.2.2.1.at q hq
      subst hfa hbv'
      have cp := cw.f0
      obtain ⟨P, hP⟩ : ∃ P, P = c.funs[q].params := ⟨_, rfl⟩
      rw [← hP] at cp
      have e1 : (0 : Int) ≤ (q : Int) := by omega
      have e2 : (q : Int) < (F : Int) := by omega
      have hcm : c.main.toNat = q := by rw [← HMN.out]; exact Int.toNat_natCast q
      by_cases m2 : P = 0
      · have g2 : (P != 0) = false := by simpa using m2
        have hMain : Hid (MainOk c) := HM.out.2 ⟨by omega, by omega, fun h => by simp only [hcm]; rw [← hP]; exact m2⟩
        have HST := Lib.hid (show RS1 W1 c (I 0) W1 from ⟨0, Nat.zero_le _, rfl, fun j _ h => absurd h (by omega), rfl⟩)
        clear m0 m1 m2 hcm hP cw hbB hbl' hq
        go_wp2_with fail
        clear cp g0 g1 g2 e1 e2
        go_loopw [34] (fun iv W => RS1 W1 c iv W) (fun iv _ => T - (intOf iv).toNat)
        case atStart => exact HST.out
        case round =>
          obtain ⟨i, hi, rfl, hss, rfl⟩ := hrel
          clear HST
          by_cases hin : i < T
          · have il : i < c.stops.length := by have := HH.out.2.1; omega
            obtain ⟨b, _, hsa, hbB, cw, sv', hsv', hsp⟩ := HH.out.2.2.2.2.2.2.2.at i il
            subst hsa hsv'
            obtain ⟨pa, pc, rfl⟩ := hsp.size
            obtain ⟨m, hm⟩ : ∃ m, m = c.stops[i].length := ⟨_, rfl⟩
            have cs := cw.f0
            rw [Nat.mul_one, ← hm] at cs
            have d0 : decide (i < T) = true := by simpa using hin
            have d1 : (0 : Int) ≤ (i : Int) := by omega
            have d2 : (i : Int) < (T : Int) := by omega
            by_cases hm0 : m = 0
            · have g3 : ((m : Int) == 0) = true := by simp; omega
              have HF := Lib.hid (HNO.out (fun h => h.2.1 i il (List.length_eq_zero_iff.1 (by omega))) wr (Below.refl _ _))
              clear hss cw hbB hsp hm hin hi hm0 il
              go_wp2_with fail
              go_ret
              exact HF.out
            · have g3 : ((m : Int) == 0) = false := by simp; omega
              have HF := Lib.hid (show RS1 wr c (I ((i : Int) + 1)) wr from ⟨i + 1, il, rfl, fun j hj hji => by
                rcases Nat.lt_or_ge j i with h | h
                · exact hss j hj h
                · obtain rfl : j = i := by omega
                  exact fun e => hm0 (by rw [hm, e]; rfl), rfl⟩)
              have HI := Lib.hid hin
              clear hss cw hbB hsp hm hin hi hm0 il
              go_wp2_with fail
              exact ⟨HF.out, by have := HI.out; simp [intOf]; omega⟩
          · have d0 : decide (i < T) = false := by simpa using hin
            obtain ⟨W1, rfl⟩ : ∃ W1 : World, W1 = wr := ⟨_, rfl⟩
            have HSS := Lib.hid (show ∀ j (h : j < c.stops.length), c.stops[j] ≠ [] from fun j hj => hss j hj (by have := HH.out.2.1; omega))
            have HS2 := Lib.hid (show RS2 W1 c (I 0) W1 from ⟨0, Nat.zero_le _, rfl, fun j _ h => absurd h (by omega), Below.refl _ _⟩)
            clear hss hin hi
            go_wp2_with fail
            clear x0 x1 x2
            go_loopw [45] (fun iv W => RS2 W1 c iv W) (fun iv _ => F - (intOf iv).toNat)
            case atStart => exact HS2.out
            case round =>
              obtain ⟨i, hi, rfl, hfs, hb⟩ := hrel
              clear HS2
              by_cases hin : i < F
              · have il : i < c.funs.length := by have := HH.out.1; omega
                obtain ⟨b, _, hfa, hbB, cw, bv, hbv, hbl⟩ := (HH.out.2.2.2.2.2.2.1.below funV_stays hb).at i il
                cases hfa
                subst hbv
                obtain ⟨ba, bc, hbs⟩ := hbl.size
                obtain ⟨f, hf⟩ : ∃ f, f = c.funs[i] := ⟨_, rfl⟩
                rw [← hf] at cw hbl hbs
                have hsf := HH.out.2.2.2.1.fs i il
                rw [← hf] at hsf
                obtain ⟨n, hn⟩ : ∃ n, n = f.blocks.length := ⟨_, rfl⟩
                rw [← hn] at hbs
                subst hbs
                obtain ⟨pr, vr, vl, hpp⟩ : ∃ a b d, f.params = a ∧ f.vars = b ∧ f.vals = d := ⟨_, _, _, rfl, rfl, rfl⟩
                rw [hpp.1, hpp.2.1, hpp.2.2] at cw
                have c0 := cw.f0
                have c1 := cw.f1
                have c2 := cw.f2
                have c3 := cw.f3
                have k1 := HH.out.2.2.2.2.2.1.below hb HH.out.2.2.2.2.2.1.lt
                obtain ⟨W6, hW6⟩ : ∃ W, W = wr.alloc (.cells #[I pr, I vr, I vl, .slice ba n bc] 36) := ⟨_, rfl⟩
                obtain ⟨b6, hb6⟩ : ∃ b, b = wr.heap.size := ⟨_, rfl⟩
                have hB6 : Below wr.heap.size wr W6 := by rw [hW6]; exact (Below.refl _ _).alloc (Nat.le_refl _) _
                have k6 : Blk b6 #[I pr, I vr, I vl, .slice ba n bc] 36 W6 := by rw [hW6, hb6]; exact Blk.new _ _ _
                have hB06 := below_tr hb hB6
                have hC := refFun_any c f HH.out.2.2.2.1.sm hsf.2 hsf.1 (some bb) sa ba F fc T sc n bc W6 (HH.out.2.2.2.2.2.2.1.below funV_stays hB06) (HH.out.2.2.2.2.2.2.2.below stopV_stays hB06) ((hbl.below blockV_stays hB6))
                rw [hpp.1, hpp.2.1, hpp.2.2, ← HMN.out] at hC
                have HC := Lib.hid hC
                have z0 := k6.get 0 (I pr) rfl
                have z1 := k6.get 1 (I vr) rfl
                have z2 := k6.get 2 (I vl) rfl
                have z3 := k6.get 3 (.slice ba n bc) rfl
                have k1' := k1.below hB6 k1.lt
                have y0 := k1'.get 0 (.slice (some bb) F fc) rfl
                have y1 := k1'.get 1 (.slice sa T sc) rfl
                have y2 := k1'.get 2 (I (q : Int)) rfl
                have HN8 := Lib.hid (show ¬ RFun c f → ∀ W', Below W6.heap.size W6 W' → TellE (RightC c) w (.returned (I 3)) W' from fun hno W' hW' => HNO.out (fun h => hno (by rw [rfun_iff, hf]; exact h.2.2 i il)) W' (below_tr hB06 hW'))
                have HX8 := Lib.hid (show RFun c f → ∀ W', Below W6.heap.size W6 W' → RS2 W1 c (I ((i : Int) + 1)) W' from fun hy W' hW' => ⟨i + 1, il, rfl, fun j hj hji => by
                  rcases Nat.lt_or_ge j i with h | h
                  · exact hfs j hj h
                  · obtain rfl : j = i := by omega
                    rw [← hf, ← rfun_iff]; exact hy, below_tr hB06 hW'⟩)
                have HI := Lib.hid hin
                have HW6 := Lib.hid (And.intro hW6 hb6)
                have d0 : decide (i < F) = true := by simpa using hin
                have d1 : (0 : Int) ≤ (i : Int) := by omega
                have d2 : (i : Int) < (F : Int) := by omega
                clear hfs hb hbB cw hbl hf hsf hn hpp k1 k1' hW6 hb6 hB6 k6 hB06 hC hin hi
                go_upto_region 14 with (fail)
                rw [← HW6.out.2]
                change Code.wp _ _ _ _ (wr.alloc (.cells #[I pr, I vr, I vl, .slice ba n bc] 36))
                rw [← HW6.out.1]
                clear c0 c1 c2 c3
                go_wp2_with fail
                refine HC.out.mono ?_
                rintro e w2 ⟨r, rfl, hr, hb2⟩
                cases r
                · have HF := Lib.hid (HN8.out (fun h => absurd (hr.2 h) (by decide)) w2 hb2)
                  clear hr hb2 z0 z1 z2 z3 y0 y1 y2
                  go_wp2_with fail
                  go_ret
                  exact HF.out
                · have HF := Lib.hid (HX8.out (hr.1 (by first | rfl | trivial)) w2 hb2)
                  clear hr hb2 z0 z1 z2 z3 y0 y1 y2
                  go_wp2_with fail
                  exact ⟨HF.out, by have := HI.out; simp [intOf]; omega⟩
              · have d0 : decide (i < F) = false := by simpa using hin
                have HF := Lib.hid (show TellE (RightC c) w (.returned (I 0)) wr from ⟨true, rfl, by simp only [true_iff]; exact ⟨hMain.out, HSS.out, fun j hj => hfs j hj (by have := HH.out.1; omega)⟩, below_tr HH.out.2.2.2.2.1 hb⟩)
                clear hfs hb hin hi
                go_wp2_with fail
                go_ret
                exact HF.out
      · have g2 : (P != 0) = true := by simpa using m2
        have HF := Lib.hid (HNO.out (fun h => m2 (by have h3 := (HM.out.1 h.1).2.2 (by rw [hcm]; exact hq); simp only [hcm] at h3; rw [hP]; exact h3)) W1 (Below.refl _ _))
        clear m0 m1 m2 hcm hP cw hbB hbl' hq
        go_wp2_with fail
        all_goals go_ret
        all_goals exact HF.out
end Go.Proofs.Ytjlmkcamefaodaa

/-! RPl: Is code plain: the document's own answer, walked. -/

namespace Go.Proofs.Ytjlmkcamefaodaa
open Go Go.RowKit Go.Maps Go.Sort Cd Fl

def PlR4 (w : World) (op : Int) (l : List DbgP) (kv : Value) (W : World) : Prop := ∃ k : Nat, k ≤ l.length ∧ kv = I (k : Int) ∧ (∀ j (h : j < l.length), j < k → l[j].kind = 3 → ¬ (op = 42 ∨ op = 39)) ∧ Below w.heap.size w W

set_option maxRecDepth 100000 in
set_option maxHeartbeats 3200000 in
theorem refPlain_any (v : Value) (c : CodeP) (hT : totN c ≤ 4000000) (h4 : sizeC c ≤ 40000) (hs : SmA c) (w : World) (h : CodeZ w v c) :
    Calls Try.prog 11 #[v] w fun e w' => TellB (PlainC c) w e w' := by
  have h' := h
  obtain ⟨fv, sv, rfl, hf, hst⟩ := h'
  obtain ⟨fa, fc, rfl⟩ := hf.size
  obtain ⟨sa, sc, rfl⟩ := hst.size
  obtain ⟨F, hF⟩ : ∃ F, F = c.funs.length := ⟨_, rfl⟩
  obtain ⟨T, hT'⟩ : ∃ F, F = c.stops.length := ⟨_, rfl⟩
  obtain ⟨mn, hmn⟩ : ∃ m, m = c.main := ⟨_, rfl⟩
  rw [← hF, ← hT', ← hmn] at h ⊢
  rw [← hF] at hf
  have hFb : (F : Int) ≤ 1000000 := by have := hs.sm.fl; omega
  obtain ⟨W1, hW1⟩ : ∃ W, W = w.alloc (.cells #[.slice fa F fc, .slice sa T sc, I mn] 25) := ⟨_, rfl⟩
  obtain ⟨b1, hb1⟩ : ∃ b, b = w.heap.size := ⟨_, rfl⟩
  have hB1 : Below w.heap.size w W1 := by rw [hW1]; exact (Below.refl _ _).alloc (Nat.le_refl _) _
  have k1 : Blk b1 #[.slice fa F fc, .slice sa T sc, I mn] 25 W1 := by rw [hW1, hb1]; exact Blk.new _ _ _
  have x0 := k1.get 0 (.slice fa F fc) rfl
  have x1 := k1.get 1 (.slice sa T sc) rfl
  have x2 := k1.get 2 (I mn) rfl
  have hC1 := Lib.hid (refCheck_any _ c hT h4 hs W1 (h.below hB1))
  have HH := Lib.hid (And.intro hF (And.intro hB1 (And.intro k1 (And.intro hs (hf.below funV_stays hB1)))))
  have HW1 := Lib.hid (And.intro hW1 hb1)
  clear hF hT' hmn hB1 k1 hW1 hb1 hf hst hT h4 hs h
  go_enter Try.func11, Try.ntmps11
  go_upto_region 1 with (fail)
  rw [← HW1.out.2]
  change Code.wp _ _ _ _ (w.alloc (.cells #[.slice fa F fc, .slice sa T sc, I mn] 25))
  rw [← HW1.out.1]
  go_wp2_with fail
  refine hC1.out.mono ?_
  rintro e w2 ⟨r, rfl, hr, hb2⟩
  clear x0 x1 x2
  cases r
  · have HF := Lib.hid (show TellB (PlainC c) w (.returned (.bool false)) w2 from ⟨false, rfl, by simp only [Bool.false_eq_true, false_iff]; exact fun h => absurd (hr.2 h.1) (by decide), below_tr HH.out.2.1 hb2⟩)
    clear hr hb2
    go_wp2_with fail
    go_ret
    exact HF.out
  have HR := Lib.hid (hr.1 rfl)
  have x0 := (HH.out.2.2.1.below hb2 HH.out.2.2.1.lt).get 0 (.slice fa F fc) rfl
  have H2 := Lib.hid (And.intro (HH.out.2.2.2.2.below funV_stays hb2) (below_tr HH.out.2.1 hb2))
  have HNO := Lib.hid (show ∀ W', Below w2.heap.size w2 W' → (∃ (i : Nat) (h : i < c.funs.length), ∃ b ∈ c.funs[i].blocks, ∃ x ∈ b.insts, Asks x) → TellB (PlainC c) w (.returned (.bool false)) W' from fun W' hW' ⟨i, hi, b, hb, x, hx, ha⟩ => ⟨false, rfl, by simp only [Bool.false_eq_true, false_iff]; exact fun h => h.2 i hi b hb x hx ha, below_tr (below_tr HH.out.2.1 hb2) hW'⟩)
  have HST := Lib.hid (show PlR1 w2 c (I 0) w2 from ⟨0, Nat.zero_le _, rfl, fun j _ h => absurd h (by omega), Below.refl _ _⟩)
  clear hr hb2
  go_wp2_with fail
  clear x0
  go_loopw [17] (fun iv W => PlR1 w2 c iv W) (fun iv _ => F - (intOf iv).toNat)
  case atStart => exact HST.out
  case round =>
    obtain ⟨i, hi, rfl, hfs, hb⟩ := hrel
    clear HST
    obtain ⟨Wo, rfl⟩ : ∃ W : World, W = wr := ⟨_, rfl⟩
    by_cases hin : i < F
    · have il : i < c.funs.length := by have := HH.out.1; omega
      obtain ⟨b, _, hfa, hbB, cw, bv, hbv, hbl⟩ := (H2.out.1.below funV_stays hb).at i il
      subst hfa hbv
      obtain ⟨ba, bc, hbs⟩ := hbl.size
      obtain ⟨f, hf⟩ : ∃ f, f = c.funs[i] := ⟨_, rfl⟩
      rw [← hf] at cw hbl hbs
      have hsf := HH.out.2.2.2.1.fs i il
      rw [← hf] at hsf
      obtain ⟨n, hn⟩ : ∃ n, n = f.blocks.length := ⟨_, rfl⟩
      rw [← hn] at hbs
      subst hbs
      have hnb : (n : Int) ≤ 1000000 := by have := hsf.2.bl; omega
      obtain ⟨pr, vr, vl, hpp⟩ : ∃ a b d, f.params = a ∧ f.vars = b ∧ f.vals = d := ⟨_, _, _, rfl, rfl, rfl⟩
      rw [hpp.1, hpp.2.1, hpp.2.2] at cw
      have c0 := cw.f0
      have c1 := cw.f1
      have c2 := cw.f2
      have c3 := cw.f3
      obtain ⟨W5, hW5⟩ : ∃ W, W = Wo.alloc (.cells #[I pr, I vr, I vl, .slice ba n bc] 36) := ⟨_, rfl⟩
      obtain ⟨b5, hb5⟩ : ∃ b, b = Wo.heap.size := ⟨_, rfl⟩
      have hB5 : Below Wo.heap.size Wo W5 := by rw [hW5]; exact (Below.refl _ _).alloc (Nat.le_refl _) _
      have k5 : Blk b5 #[I pr, I vr, I vl, .slice ba n bc] 36 W5 := by rw [hW5, hb5]; exact Blk.new _ _ _
      have z3 := k5.get 3 (.slice ba n bc) rfl
      have HS2 := Lib.hid (show PlR2 W5 f (I 0) W5 from ⟨0, Nat.zero_le _, rfl, fun j _ h => absurd h (by omega), Below.refl _ _⟩)
      have H5 := Lib.hid (And.intro (hbl.below blockV_stays hB5) (And.intro hn (And.intro (below_tr hb hB5) (And.intro hin (And.intro hf (And.intro hsf hfs))))))
      have HW5 := Lib.hid (And.intro hW5 hb5)
      have d0 : decide (i < F) = true := by simpa using hin
      have d1 : (0 : Int) ≤ (i : Int) := by omega
      have d2 : (i : Int) < (F : Int) := by omega
      clear hfs hb hbB cw hbl hn hpp hW5 hb5 hB5 k5 hin hi hsf hf
      go_upto_region 6 with (fail)
      rw [← HW5.out.2]
      change Code.wp _ _ _ _ (Wo.alloc (.cells #[I pr, I vr, I vl, .slice ba n bc] 36))
      rw [← HW5.out.1]
      clear c0 c1 c2 c3
      go_wp2_with fail
      clear z3
      go_loopw [24] (fun jv W => PlR2 W5 f jv W) (fun jv _ => n - (intOf jv).toNat)
      case atStart => exact HS2.out
      case round =>
        obtain ⟨j, hj, rfl, hbs, hb⟩ := hrel
        clear HS2
        obtain ⟨Wp, rfl⟩ : ∃ W : World, W = wr := ⟨_, rfl⟩
        by_cases hjn : j < n
        · have jl : j < f.blocks.length := by have := H5.out.2.1; omega
          obtain ⟨g1, _, e1, gl, cw, pv, iv, rfl, hpz, hiz⟩ := (H5.out.1.below blockV_stays hb).at j jl
          subst e1
          obtain ⟨pa, pc, hpv⟩ := hpz.size
          obtain ⟨ia, ic, hiv⟩ := hiz.size
          obtain ⟨y, hy⟩ : ∃ x, x = f.blocks[j] := ⟨_, rfl⟩
          rw [← hy] at cw hpz hiz hpv hiv
          have hyi := H5.out.2.2.2.2.2.1.2.ins j jl
          rw [← hy] at hyi
          obtain ⟨PL, hP⟩ : ∃ P, P = y.phis.length := ⟨_, rfl⟩
          obtain ⟨J, hJ⟩ : ∃ P, P = y.insts.length := ⟨_, rfl⟩
          subst hpv hiv
          have hJb : (J : Int) ≤ 1000000 := by
            have h1 := cB_succ f jl
            have h2 := cB_mono f (show j + 1 ≤ f.blocks.length from jl)
            have h3 := H5.out.2.2.2.2.2.1.2.cb
            rw [← hy, ← hJ] at h1
            omega
          obtain ⟨fin, arg, tt, els, hyy⟩ : ∃ fin arg tt els, y.fin = fin ∧ y.arg = arg ∧ y.to = tt ∧ y.els = els := ⟨_, _, _, _, rfl, rfl, rfl, rfl⟩
          rw [hyy.1, hyy.2.1, hyy.2.2.1, hyy.2.2.2, ← hP, ← hJ] at cw
          rw [← hJ] at hiz
          have c0 := cw.f0
          have c1 := cw.f1
          have c2 := cw.f2
          have c3 := cw.f3
          have c4 := cw.f4
          have c5 := cw.f5
          obtain ⟨W7, hW7⟩ : ∃ W, W = Wp.alloc (.cells #[.slice pa PL pc, .slice ia J ic, U8 fin, I arg, I tt, I els] 40) := ⟨_, rfl⟩
          obtain ⟨b7, hb7⟩ : ∃ b, b = Wp.heap.size := ⟨_, rfl⟩
          have hB7 : Below Wp.heap.size Wp W7 := by rw [hW7]; exact (Below.refl _ _).alloc (Nat.le_refl _) _
          have k7 : Blk b7 #[.slice pa PL pc, .slice ia J ic, U8 fin, I arg, I tt, I els] 40 W7 := by rw [hW7, hb7]; exact Blk.new _ _ _
          have z1 := k7.get 1 (.slice ia J ic) rfl
          have HS3 := Lib.hid (show PlR3 W7 y (I 0) W7 from ⟨0, Nat.zero_le _, rfl, fun j _ h => absurd h (by omega), Below.refl _ _⟩)
          have H7 := Lib.hid (And.intro (hiz.below instV_stays hB7) (And.intro hJ (And.intro (below_tr hb hB7) (And.intro hjn (And.intro hy (And.intro hyi hbs))))))
          have HW7 := Lib.hid (And.intro hW7 hb7)
          have d0 : decide (j < n) = true := by simpa using hjn
          have d1 : (0 : Int) ≤ (j : Int) := by omega
          have d2 : (j : Int) < (n : Int) := by omega
          clear hbs hb gl cw hpz hiz hP hJ hyy hjn hj hyi hW7 hb7 hB7 k7 hy
          go_upto_region 9 with (fail)
          rw [← HW7.out.2]
          change Code.wp _ _ _ _ (Wp.alloc (.cells #[.slice pa PL pc, .slice ia J ic, U8 fin, I arg, I tt, I els] 40))
          rw [← HW7.out.1]
          clear c0 c1 c2 c3 c4 c5
          go_wp2_with fail
          clear z1
          go_loopw [31] (fun kv W => PlR3 W7 y kv W) (fun kv _ => J - (intOf kv).toNat)
          case atStart => exact HS3.out
          case round =>
            obtain ⟨k, hk, rfl, his, hb⟩ := hrel
            clear HS3
            obtain ⟨Wq, rfl⟩ : ∃ W : World, W = wr := ⟨_, rfl⟩
            by_cases hkJ : k < J
            · have kx : k < y.insts.length := by have := H7.out.2.1; omega
              obtain ⟨pb, _, e1, pl, cw, av, dv, rfl, haz, hdz⟩ := (H7.out.1.below instV_stays hb).at k kx
              subst e1
              obtain ⟨aa, ac, hav⟩ := haz.size
              obtain ⟨da, dc, hdv⟩ := hdz.size
              obtain ⟨x, hx⟩ : ∃ y', y' = y.insts[k] := ⟨_, rfl⟩
              have hsi : SmI x := by rw [hx]; exact H7.out.2.2.2.2.2.1.2.1 _ (List.getElem_mem kx)
              rw [← hx] at cw haz hdz hav hdv
              obtain ⟨A, hA⟩ : ∃ A, A = x.args.length := ⟨_, rfl⟩
              obtain ⟨D, hD⟩ : ∃ A, A = x.dbg.length := ⟨_, rfl⟩
              subst hav hdv
              obtain ⟨op, dst, imm, site, hyy⟩ : ∃ op dst imm site, x.op = op ∧ x.dst = dst ∧ x.imm = imm ∧ x.site = site := ⟨_, _, _, _, rfl, rfl, rfl, rfl⟩
              rw [hyy.1, hyy.2.1, hyy.2.2.1, hyy.2.2.2, ← hA, ← hD] at cw
              have c0 := cw.f0
              have c1 := cw.f1
              have c2 := cw.f2
              have c3 := cw.f3
              have c4 := cw.f4
              have c5 := cw.f5
              obtain ⟨W9, hW9⟩ : ∃ W, W = Wq.alloc (.cells #[U8 op, I dst, .slice aa A ac, I imm, I site, .slice da D dc] 44) := ⟨_, rfl⟩
              obtain ⟨b9, hb9⟩ : ∃ b, b = Wq.heap.size := ⟨_, rfl⟩
              have hB9 : Below Wq.heap.size Wq W9 := by rw [hW9]; exact (Below.refl _ _).alloc (Nat.le_refl _) _
              have k9 : Blk b9 #[U8 op, I dst, .slice aa A ac, I imm, I site, .slice da D dc] 44 W9 := by rw [hW9, hb9]; exact Blk.new _ _ _
              have z0 := k9.get 0 (U8 op) rfl
              have z1 := k9.get 1 (I dst) rfl
              have z2 := k9.get 2 (.slice aa A ac) rfl
              have z3 := k9.get 3 (I imm) rfl
              have z4 := k9.get 4 (I site) rfl
              have z5 := k9.get 5 (.slice da D dc) rfl
              have hdz9 := hdz.below dbgV_stays hB9
              have HW9 := Lib.hid (And.intro hW9 hb9)
              have HY := Lib.hid (show Asks x → ∀ W', Below W9.heap.size W9 W' → TellB (PlainC c) w (.returned (.bool false)) W' from fun ha W' hW' => HNO.out W' (below_tr H5.out.2.2.1 (below_tr H7.out.2.2.1 (below_tr hb (below_tr hB9 hW')))) ⟨i, il, y, by rw [← H5.out.2.2.2.2.1, H7.out.2.2.2.2.1]; exact List.getElem_mem jl, x, by rw [hx]; exact List.getElem_mem kx, ha⟩)
              have HNX := Lib.hid (show ¬ Asks x → ∀ W', Below W9.heap.size W9 W' → PlR3 W7 y (I ((k : Int) + 1)) W' from fun hn W' hW' => ⟨k + 1, kx, rfl, fun j hj hjk => by
                rcases Nat.lt_or_ge j k with h | h
                · exact his j hj h
                · obtain rfl : j = k := by omega
                  rw [← hx]; exact hn, below_tr hb (below_tr hB9 hW')⟩)
              have HK := Lib.hid (And.intro hkJ (And.intro hsi (And.intro hyy (And.intro hA (And.intro hD (And.intro hdz9 k9))))))
              have d0 : decide (k < J) = true := by simpa using hkJ
              have d1 : (0 : Int) ≤ (k : Int) := by omega
              have d2 : (k : Int) < (J : Int) := by omega
              clear his hb pl cw haz hdz hsi hyy hW9 hb9 hB9 k9 hkJ hk hdz9 hx kx hA hD
              go_upto_region 12 with (fail)
              rw [← HW9.out.2]
              change Code.wp _ _ _ _ (Wq.alloc (.cells #[U8 op, I dst, .slice aa A ac, I imm, I site, .slice da D dc] 44))
              rw [← HW9.out.1]
              clear c0 c1 c2 c3 c4 c5
              have hAS : Hid (Asks x ↔ op = 43 ∨ op = 44 ∨ ((op = 42 ∨ op = 39) ∧ ∃ d ∈ x.dbg, d.kind = 3)) := by
                unfold Hid Asks Tells
                rw [HK.out.2.2.1.1]
              by_cases h43 : op = 43
              case pos =>
                have g43 : (op == 43) = true := by simpa using h43
                have HF := Lib.hid (HY.out (hAS.out.2 (Or.inl h43)) W9 (Below.refl _ _))
                clear h43 z1 z2 z3 z4 z5
                go_wp2_with fail
                go_ret
                exact HF.out
              have g43 : (op == 43) = false := by simpa using h43
              by_cases h44 : op = 44
              case pos =>
                have g44 : (op == 44) = true := by simpa using h44
                have HF := Lib.hid (HY.out (hAS.out.2 (Or.inr (Or.inl h44))) W9 (Below.refl _ _))
                clear h43 h44 z1 z2 z3 z4 z5
                go_wp2_with fail
                go_ret
                exact HF.out
              have g44 : (op == 44) = false := by simpa using h44
              have HNN := Lib.hid (And.intro h43 h44)
              have hDb : (D : Int) ≤ 1000000 := by have h8 := HK.out.2.1.dl; have h9 := HK.out.2.2.2.2.1; omega
              have HS4 := Lib.hid (show PlR4 W9 op x.dbg (I 0) W9 from ⟨0, Nat.zero_le _, rfl, fun j _ h => absurd h (by omega), Below.refl _ _⟩)
              clear h43 h44
              go_wp2_with fail
              clear z0 z1 z2 z3 z4 z5 g43 g44
              go_loopw [46] (fun mv W => PlR4 W9 op x.dbg mv W) (fun mv _ => D - (intOf mv).toNat)
              case atStart => exact HS4.out
              case round =>
                obtain ⟨m, hm, rfl, hms, hb4⟩ := hrel
                clear HS4
                by_cases hmD : m < D
                case pos =>
                  have mx : m < x.dbg.length := by have := HK.out.2.2.2.2.1; omega
                  have hdzr := HK.out.2.2.2.2.2.1.below dbgV_stays hb4
                  rw [← HK.out.2.2.2.2.1] at hdzr
                  obtain ⟨gb, _, e1, pl, cw, rfl⟩ := hdzr.at m mx
                  subst e1
                  obtain ⟨d, hd⟩ : ∃ d, d = x.dbg[m] := ⟨_, rfl⟩
                  rw [← hd] at cw
                  obtain ⟨dep, var, kind, arg, da', db', hdd⟩ : ∃ dep var kind arg da' db', d.dep = dep ∧ d.var = var ∧ d.kind = kind ∧ d.arg = arg ∧ d.a = da' ∧ d.b = db' := ⟨_, _, _, _, _, _, rfl, rfl, rfl, rfl, rfl, rfl⟩
                  have c0 := cw.f0
                  have c1 := cw.f1
                  have c2 := cw.f2
                  have c3 := cw.f3
                  have c4 := cw.f4
                  have c5 := cw.f5
                  rw [hdd.1] at c0
                  rw [hdd.2.1] at c1
                  rw [hdd.2.2.1] at c2
                  rw [hdd.2.2.2.1] at c3
                  rw [hdd.2.2.2.2.1] at c4
                  rw [hdd.2.2.2.2.2] at c5
                  obtain ⟨W11, hW11⟩ : ∃ W, W = wr.alloc (.cells #[I dep, I var, U8 kind, I arg, I da', I db'] 57) := ⟨_, rfl⟩
                  obtain ⟨b11, hb11⟩ : ∃ b, b = wr.heap.size := ⟨_, rfl⟩
                  have hB11 : Below wr.heap.size wr W11 := by rw [hW11]; exact (Below.refl _ _).alloc (Nat.le_refl _) _
                  have k11 : Blk b11 #[I dep, I var, U8 kind, I arg, I da', I db'] 57 W11 := by rw [hW11, hb11]; exact Blk.new _ _ _
                  have hB := below_tr hb4 hB11
                  have y2 := k11.get 2 (U8 kind) rfl
                  have y0 := (HK.out.2.2.2.2.2.2.below hB HK.out.2.2.2.2.2.2.lt).get 0 (U8 op) rfl
                  have HYm := Lib.hid (show kind = 3 → (op = 42 ∨ op = 39) → TellB (PlainC c) w (.returned (.bool false)) W11 from fun h3 ho => HY.out (hAS.out.2 (Or.inr (Or.inr ⟨ho, d, by rw [hd]; exact List.getElem_mem mx, by rw [hdd.2.2.1]; exact h3⟩))) W11 hB)
                  have HNm := Lib.hid (show (kind = 3 → ¬ (op = 42 ∨ op = 39)) → PlR4 W9 op x.dbg (I ((m : Int) + 1)) W11 from fun hn => ⟨m + 1, mx, rfl, fun j hj hjm => by
                    rcases Nat.lt_or_ge j m with h | h
                    · exact hms j hj h
                    · obtain rfl : j = m := by omega
                      rw [← hd, hdd.2.2.1]; exact hn, hB⟩)
                  have HKm := Lib.hid hmD
                  have HW11 := Lib.hid (And.intro hW11 hb11)
                  have f0 : decide (m < D) = true := by simpa using hmD
                  have f1 : (0 : Int) ≤ (m : Int) := by omega
                  have f2 : (m : Int) < (D : Int) := by omega
                  clear hms hb4 hdzr pl cw hd hdd hW11 hb11 hB11 k11 hB hmD hm mx
                  go_upto_region 17 with (fail)
                  rw [← HW11.out.2]
                  change Code.wp _ _ _ _ (wr.alloc (.cells #[I dep, I var, U8 kind, I arg, I da', I db'] 57))
                  rw [← HW11.out.1]
                  clear c0 c1 c2 c3 c4 c5
                  by_cases h3 : kind = 3
                  case neg =>
                    have g3 : (kind == 3) = false := by simpa using h3
                    have HF := Lib.hid (HNm.out (fun h => absurd h h3))
                    clear h3
                    go_wp2_with fail
                    exact ⟨HF.out, by have := HKm.out; simp [intOf]; omega⟩
                  have g3 : (kind == 3) = true := by simpa using h3
                  by_cases h42 : op = 42
                  case pos =>
                    have g42 : (op == 42) = true := by simpa using h42
                    have HF := Lib.hid (HYm.out h3 (Or.inl h42))
                    clear h3 h42
                    go_wp2_with fail
                    go_ret
                    exact HF.out
                  have g42 : (op == 42) = false := by simpa using h42
                  by_cases h39 : op = 39
                  case pos =>
                    have g39 : (op == 39) = true := by simpa using h39
                    have HF := Lib.hid (HYm.out h3 (Or.inr h39))
                    clear h3 h42 h39
                    go_wp2_with fail
                    go_ret
                    exact HF.out
                  have g39 : (op == 39) = false := by simpa using h39
                  have HF := Lib.hid (HNm.out (fun _ h => by omega))
                  clear h3 h42 h39
                  go_wp2_with fail
                  exact ⟨HF.out, by have := HKm.out; simp [intOf]; omega⟩
                have f0 : decide (m < D) = false := by simpa using hmD
                have HF := Lib.hid (HNX.out (fun h => by
                  rcases hAS.out.1 h with h | h | ⟨ho, d, hd, hk3⟩
                  · exact HNN.out.1 h
                  · exact HNN.out.2 h
                  · obtain ⟨j, hj, rfl⟩ := List.getElem_of_mem hd
                    exact hms j hj (by have := HK.out.2.2.2.2.1; omega) hk3 ho) wr hb4)
                clear hms hb4 hmD hm
                go_wp2_with fail
                exact ⟨HF.out, by have := HK.out.1; simp [intOf]; omega⟩
            · have d0 : decide (k < J) = false := by simpa using hkJ
              have HNX := Lib.hid (show PlR2 W5 f (I ((j : Int) + 1)) Wq from ⟨j + 1, jl, rfl, fun j' hj' hjk => by
                rcases Nat.lt_or_ge j' j with h | h
                · exact H7.out.2.2.2.2.2.2 j' hj' h
                · obtain rfl : j' = j := by omega
                  intro x hx
                  rw [← H7.out.2.2.2.2.1] at hx
                  obtain ⟨q, hq, rfl⟩ := List.getElem_of_mem hx
                  exact his q hq (by have := H7.out.2.1; omega), below_tr H7.out.2.2.1 hb⟩)
              have HJ := Lib.hid H7.out.2.2.2.1
              clear his hb hkJ hk
              go_wp2_with fail
              exact ⟨HNX.out, by have := HJ.out; simp [intOf]; omega⟩
        · have d0 : decide (j < n) = false := by simpa using hjn
          have HNX := Lib.hid (show PlR1 w2 c (I ((i : Int) + 1)) Wp from ⟨i + 1, il, rfl, fun j' hj' hjk => by
            rcases Nat.lt_or_ge j' i with h | h
            · exact H5.out.2.2.2.2.2.2 j' hj' h
            · obtain rfl : j' = i := by omega
              intro b hb' x hx
              rw [← H5.out.2.2.2.2.1] at hb'
              obtain ⟨q, hq, rfl⟩ := List.getElem_of_mem hb'
              exact hbs q hq (by have := H5.out.2.1; omega) x hx, below_tr H5.out.2.2.1 hb⟩)
          have HJ := Lib.hid H5.out.2.2.2.1
          clear hbs hb hjn hj
          go_wp2_with fail
          exact ⟨HNX.out, by have := HJ.out; simp [intOf]; omega⟩
    · have d0 : decide (i < F) = false := by simpa using hin
      have HF := Lib.hid (show TellB (PlainC c) w (.returned (.bool true)) Wo from ⟨true, rfl, by simp only [true_iff]; exact ⟨HR.out, fun j hj b hb' x hx => hfs j hj (by have := HH.out.1; omega) b hb' x hx⟩, below_tr H2.out.2 hb⟩)
      clear hfs hb hin hi
      go_wp2_with fail
      go_ret
      exact HF.out
end Go.Proofs.Ytjlmkcamefaodaa
