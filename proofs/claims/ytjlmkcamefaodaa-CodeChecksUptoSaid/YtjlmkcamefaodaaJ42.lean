/-
  Joined: RFn.
-/
import Derived.Test.YtjlmkcamefaodaaJ41
import Derived.Deep.DeepCutAuto
import Derived.Deep.CutBlock
/-! RFn: Is a function right: the document's own answer, walked. -/

namespace Go.Proofs.Ytjlmkcamefaodaa
open Go Go.RowKit Go.Maps Go.Sort Cd Fl

set_option maxRecDepth 100000 in
set_option maxHeartbeats 12800000 in
theorem refFun_any (c : CodeP) (f : FunP) (hc : SmC c) (hf : SmF f) (h150 : f.blocks.length ≤ 150) (fa sa ba : Option Addr) (F fc T sc n bc : Nat) (w : World)
    (hff : FunsZ w (.slice fa F fc) c.funs) (hss : StopsZ w (.slice sa T sc) c.stops) (hbl : BlocksZ w (.slice ba n bc) f.blocks) :
    Calls Try.prog 21 #[.agg #[.slice fa F fc, .slice sa T sc, I c.main], .agg #[I f.params, I f.vars, I f.vals, .slice ba n bc]] w fun e w' => TellB (RFun c f) w e w' := by
  have hF : F = c.funs.length := by
    obtain ⟨a', c', e, _⟩ := hff
    injection e
  have hT : T = c.stops.length := by
    obtain ⟨a', c', e, _⟩ := hss
    injection e
  have hn : n = f.blocks.length := by
    obtain ⟨a', c', e, _⟩ := hbl
    injection e
  have hnb : (n : Int) ≤ 150 := by omega
  have hFb : (F : Int) ≤ 1000000 := by have := hc.fl; omega
  have hTb : (T : Int) ≤ 1000000 := by have := hc.st.1; omega
  obtain ⟨W1, hW1⟩ : ∃ W, W = (w.alloc (.cells #[.slice fa F fc, .slice sa T sc, I c.main] 25)).alloc (.cells #[I f.params, I f.vars, I f.vals, .slice ba n bc] 36) := ⟨_, rfl⟩
  obtain ⟨b2, hb2⟩ : ∃ b, b = w.heap.size := ⟨_, rfl⟩
  obtain ⟨b3, hb3⟩ : ∃ b, b = w.heap.size + 1 := ⟨_, rfl⟩
  have hB1 : Below w.heap.size w W1 := by rw [hW1]; exact ((Below.refl _ _).alloc (Nat.le_refl _) _).alloc (by simp) _
  have k2 : Blk b2 #[.slice fa F fc, .slice sa T sc, I c.main] 25 W1 := by rw [hW1, hb2]; exact (Blk.new _ _ _).alloc _
  have k3 : Blk b3 #[I f.params, I f.vars, I f.vals, .slice ba n bc] 36 W1 := by rw [hW1, hb3]; exact Blk.new' _ _ _ (by simp)
  have HK := Lib.hid (show FK b2 b3 fa sa ba F fc T sc n bc c f W1 from ⟨k2, k3, hff.below funV_stays hB1, hss.below stopV_stays hB1, hbl.below blockV_stays hB1, hn, hF, hT⟩)
  obtain ⟨pr, vr, vl, hpp⟩ : ∃ a b d, f.params = a ∧ f.vars = b ∧ f.vals = d := ⟨_, _, _, rfl, rfl, rfl⟩
  obtain ⟨mn, hmn⟩ : ∃ m, c.main = m := ⟨_, rfl⟩
  have HG := Lib.hid (fun (W : World) (hW : Below W1.heap.size W1 W) => refGraph_any f (by unfold SmallL; omega) ba n bc W ((HK.out.below hW).bb))
  have HM := Lib.hid (fun (v : Int) (W : World) (hW : Below W1.heap.size W1 W) => made_any f hf ba n bc v W ((HK.out.below hW).bb))
  have HY := Lib.hid (fun (bo dc : Nat) (v : Int) (hb : Nat) (hbn : hb < n) (ha : Int) (W : World) (hW : Below W1.heap.size W1 W) (hd : DomK bo f W) => may_any f hf ba n bc bo dc v hb hbn ha W ((HK.out.below hW).bb) hd)
  rw [hpp.1, hpp.2.1, hpp.2.2] at HG HM HY hW1 k3
  rw [hmn] at hW1 k2
  rw [hpp.1, hpp.2.1, hpp.2.2, hmn]
  have x0 := k3.get 0 (I pr) rfl
  have x1 := k3.get 1 (I vr) rfl
  have x2 := k3.get 2 (I vl) rfl
  have x3 := k3.get 3 (.slice ba n bc) rfl
  have HH := Lib.hid (And.intro hn (And.intro hF (And.intro hT (And.intro hc (And.intro hf (And.intro h150 hB1))))))
  have HP := Lib.hid (And.intro hpp.1 (And.intro hpp.2.1 (And.intro hpp.2.2 hmn)))
  have hSZ : Hid (SizesOk f ↔ (0 ≤ pr ∧ pr ≤ 6) ∧ (0 ≤ vr ∧ vr ≤ 255) ∧ (0 ≤ vl ∧ vl ≤ 60000) ∧ 1 ≤ n ∧ n ≤ 60000) := by
    unfold Hid SizesOk
    rw [hpp.1, hpp.2.1, hpp.2.2, hn]
  have HNO := Lib.hid (show ¬ RFun c f → ∀ W', Below W1.heap.size W1 W' → TellB (RFun c f) w (.returned (.bool false)) W' from fun hno W' hW' => ⟨false, rfl, by simp only [Bool.false_eq_true, false_iff]; exact hno, below_tr hB1 hW'⟩)
  have HYES := Lib.hid (show RFun c f → ∀ W', Below W1.heap.size W1 W' → TellB (RFun c f) w (.returned (.bool true)) W' from fun hy W' hW' => ⟨true, rfl, by simp only [true_iff]; exact hy, below_tr hB1 hW'⟩)
  have HW1 := Lib.hid (And.intro hW1 (And.intro hb2 hb3))
  clear hff hss hbl hn hF hT hc hf h150 hB1 hpp hmn hW1 hb2 hb3 k2 k3
  go_enter Try.func21, Try.ntmps21
  go_upto_region 1 with (fail)
  rw [← HW1.out.2.2, ← HW1.out.2.1]
  change Code.wp _ _ _ _ ((w.alloc (.cells #[.slice fa F fc, .slice sa T sc, I mn] 25)).alloc (.cells #[I pr, I vr, I vl, .slice ba n bc] 36))
  rw [← HW1.out.1]
  by_cases p0 : pr < 0
  · have g0 : decide (pr < 0) = true := decide_eq_true p0
    have HF := Lib.hid (HNO.out (fun h => by have := hSZ.out.1 h.1; omega) W1 (Below.refl _ _))
    clear p0
    go_wp2_with fail
    go_ret
    exact HF.out
  have g0 : decide (pr < 0) = false := decide_eq_false p0
  by_cases p1 : 6 < pr
  · have g1 : decide (6 < pr) = true := decide_eq_true p1
    have HF := Lib.hid (HNO.out (fun h => by have := hSZ.out.1 h.1; omega) W1 (Below.refl _ _))
    clear p0 p1
    go_wp2_with fail
    go_ret
    exact HF.out
  have g1 : decide (6 < pr) = false := decide_eq_false p1
  by_cases p2 : vr < 0
  · have g2 : decide (vr < 0) = true := decide_eq_true p2
    have HF := Lib.hid (HNO.out (fun h => by have := hSZ.out.1 h.1; omega) W1 (Below.refl _ _))
    clear p0 p1 p2
    go_wp2_with fail
    go_ret
    exact HF.out
  have g2 : decide (vr < 0) = false := decide_eq_false p2
  by_cases p3 : 255 < vr
  · have g3 : decide (255 < vr) = true := decide_eq_true p3
    have HF := Lib.hid (HNO.out (fun h => by have := hSZ.out.1 h.1; omega) W1 (Below.refl _ _))
    clear p0 p1 p2 p3
    go_wp2_with fail
    go_ret
    exact HF.out
  have g3 : decide (255 < vr) = false := decide_eq_false p3
  by_cases p4 : vl < 0
  · have g4 : decide (vl < 0) = true := decide_eq_true p4
    have HF := Lib.hid (HNO.out (fun h => by have := hSZ.out.1 h.1; omega) W1 (Below.refl _ _))
    clear p0 p1 p2 p3 p4
    go_wp2_with fail
    go_ret
    exact HF.out
  have g4 : decide (vl < 0) = false := decide_eq_false p4
  by_cases p5 : 60000 < vl
  · have g5 : decide (60000 < vl) = true := decide_eq_true p5
    have HF := Lib.hid (HNO.out (fun h => by have := hSZ.out.1 h.1; omega) W1 (Below.refl _ _))
    clear p0 p1 p2 p3 p4 p5
    go_wp2_with fail
    go_ret
    exact HF.out
  have g5 : decide (60000 < vl) = false := decide_eq_false p5
  by_cases p6 : (n : Int) < 1
  · have g6 : decide ((n : Int) < 1) = true := decide_eq_true p6
    have HF := Lib.hid (HNO.out (fun h => by have := hSZ.out.1 h.1; omega) W1 (Below.refl _ _))
    clear p0 p1 p2 p3 p4 p5 p6
    go_wp2_with fail
    go_ret
    exact HF.out
  have g6 : decide ((n : Int) < 1) = false := decide_eq_false p6
  have g7 : decide (60000 < (n : Int)) = false := decide_eq_false (by omega)
  have HSZ := Lib.hid (hSZ.out.2 (by omega))
  have HN1 := Lib.hid (show 1 ≤ n by omega)
  have HST := Lib.hid (show RF1 W1 f (I 0) W1 from ⟨0, Nat.zero_le _, rfl, fun j _ h => absurd h (by omega), Below.refl _ _⟩)
  clear p0 p1 p2 p3 p4 p5 p6
  go_wp2_with fail
  clear x0 x1 x2 x3 g0 g1 g2 g3 g4 g5 g6 g7
  go_loopw [76] (fun iv W => RF1 W1 f iv W) (fun iv _ => n - (intOf iv).toNat)
  case atStart => exact HST.out
  case round =>
    obtain ⟨i, hi, rfl, hes, hb0⟩ := hrel
    clear HST
    by_cases hin : i < n
    · have il : i < f.blocks.length := by have := HH.out.1; omega
      obtain ⟨g1, _, e1, gl, cw, pv, iv, rfl, hpz, hiz⟩ := (HK.out.below hb0).bb.at i il
      subst e1
      obtain ⟨x, hx⟩ : ∃ x, x = f.blocks[i] := ⟨_, rfl⟩
      rw [← hx] at cw
      obtain ⟨pa, pc, hpv⟩ := hpz.size
      obtain ⟨ia, ic, hiv⟩ := hiz.size
      rw [← hx] at hpv hiv
      obtain ⟨PL, hP⟩ : ∃ P, P = x.phis.length := ⟨_, rfl⟩
      obtain ⟨J, hJ⟩ : ∃ J, J = x.insts.length := ⟨_, rfl⟩
      subst hpv hiv
      obtain ⟨fin, arg, tt, els, hyy⟩ : ∃ fin arg tt els, x.fin = fin ∧ x.arg = arg ∧ x.to = tt ∧ x.els = els := ⟨_, _, _, _, rfl, rfl, rfl, rfl⟩
      rw [hyy.1, hyy.2.1, hyy.2.2.1, hyy.2.2.2, ← hP, ← hJ] at cw
      have c0 := cw.f0
      have c1 := cw.f1
      have c2 := cw.f2
      have c3 := cw.f3
      have c4 := cw.f4
      have c5 := cw.f5
      obtain ⟨W4, hW4⟩ : ∃ W, W = wr.alloc (.cells #[.slice pa PL pc, .slice ia J ic, U8 fin, I arg, I tt, I els] 40) := ⟨_, rfl⟩
      obtain ⟨b4, hb4⟩ : ∃ b, b = wr.heap.size := ⟨_, rfl⟩
      have hB4 : Below wr.heap.size wr W4 := by rw [hW4]; exact (Below.refl _ _).alloc (Nat.le_refl _) _
      have k4 : Blk b4 #[.slice pa PL pc, .slice ia J ic, U8 fin, I arg, I tt, I els] 40 W4 := by rw [hW4, hb4]; exact Blk.new _ _ _
      have z2 := k4.get 2 (U8 fin) rfl
      have z4 := k4.get 4 (I tt) rfl
      have z5 := k4.get 5 (I els) rfl
      have hE : Hid (REndB f.blocks[i] ↔ (1 ≤ fin ∧ fin ≤ 4) ∧ (fin = 2 → tt ≠ els)) := by
        unfold Hid REndB
        rw [← hx, hyy.1, hyy.2.2.1, hyy.2.2.2]
      have HNB := Lib.hid (show ¬ REndB f.blocks[i] → TellB (RFun c f) w (.returned (.bool false)) W4 from fun hno => HNO.out (fun h => hno (h.2.1 i il)) W4 (below_tr hb0 hB4))
      have HNX := Lib.hid (show REndB f.blocks[i] → RF1 W1 f (I ((i : Int) + 1)) W4 from fun hy => ⟨i + 1, il, rfl, fun j hj hji => by
        rcases Nat.lt_or_ge j i with h | h
        · exact hes j hj h
        · obtain rfl : j = i := by omega
          exact hy, below_tr hb0 hB4⟩)
      have HI := Lib.hid hin
      have HW4 := Lib.hid (And.intro hW4 hb4)
      have d0 : decide (i < n) = true := by simpa using hin
      have d1 : (0 : Int) ≤ (i : Int) := by omega
      have d2 : (i : Int) < (n : Int) := by omega
      clear hes hb0 gl cw hpz hiz hx hP hJ hyy hW4 hb4 hB4 k4 hin hi
      go_upto_region 6 with (fail)
      rw [← HW4.out.2]
      change Code.wp _ _ _ _ (wr.alloc (.cells #[.slice pa PL pc, .slice ia J ic, U8 fin, I arg, I tt, I els] 40))
      rw [← HW4.out.1]
      clear c0 c1 c2 c3 c4 c5
      by_cases p0 : fin < 1
      · have g0 : decide (fin < 1) = true := decide_eq_true p0
        have HF := Lib.hid (HNB.out (fun h => by have := hE.out.1 h; omega))
        clear p0
        go_wp2_with fail
        go_ret
        exact HF.out
      have g0 : decide (fin < 1) = false := decide_eq_false p0
      by_cases p1 : 4 < fin
      · have g1 : decide (4 < fin) = true := decide_eq_true p1
        have HF := Lib.hid (HNB.out (fun h => by have := hE.out.1 h; omega))
        clear p0 p1
        go_wp2_with fail
        go_ret
        exact HF.out
      have g1 : decide (4 < fin) = false := decide_eq_false p1
      by_cases p2 : fin = 2
      · have g2 : (fin == 2) = true := by simpa using p2
        by_cases p3 : tt = els
        · have g3 : (tt == els) = true := by simpa using p3
          have HF := Lib.hid (HNB.out (fun h => (hE.out.1 h).2 p2 p3))
          clear p0 p1 p2 p3
          go_wp2_with fail
          go_ret
          exact HF.out
        · have g3 : (tt == els) = false := by simpa using p3
          have HF := Lib.hid (HNX.out (hE.out.2 ⟨by omega, fun _ => p3⟩))
          clear p0 p1 p2 p3
          go_wp2_with fail
          exact ⟨HF.out, by have := HI.out; simp [intOf]; omega⟩
      · have g2 : (fin == 2) = false := by simpa using p2
        have HF := Lib.hid (HNX.out (hE.out.2 ⟨by omega, fun h => absurd h p2⟩))
        clear p0 p1 p2
        go_wp2_with fail
        exact ⟨HF.out, by have := HI.out; simp [intOf]; omega⟩
    · have d0 : decide (i < n) = false := by simpa using hin
      have hE := Lib.hid (show ∀ j (h : j < f.blocks.length), REndB f.blocks[j] from fun j hj => hes j hj (by have := HH.out.1; omega))
      have hk := HK.out.below hb0
      have x0 := hk.k3.get 0 (I f.params) rfl
      have x1 := hk.k3.get 1 (I f.vars) rfl
      have x2 := hk.k3.get 2 (I f.vals) rfl
      have x3 := hk.k3.get 3 (.slice ba n bc) rfl
      rw [HP.out.1] at x0
      rw [HP.out.2.1] at x1
      rw [HP.out.2.2.1] at x2
      have HGC := Lib.hid (HG.out wr hb0)
      have H0 := Lib.hid hb0
      clear hes hin hi hb0 hk
      go_wp2_with fail
      refine HGC.out.mono ?_
      rintro e w1 ⟨u, rfl, hu, hb1, hat⟩
      obtain ⟨g, gc, rfl⟩ := hat (fun e => by have := HN1.out; have := HH.out.1; rw [e] at this; simp at this; omega)
      have hne : waysF f ≠ [] := fun e => by have := waysF_len f; rw [e] at this; have := HN1.out; have := HH.out.1; simp at *; omega
      have hu' : SlS (LtW w1) 1 RowV w1 (.slice (some ⟨g, 0, none⟩) (waysF f).length gc) (waysF f) := by rw [waysF_len]; exact hu
      have HC := Lib.hid (check_gz _ (waysF f) (by rw [waysF_len]; have := HH.out.2.2.2.2.2.1; omega) (fun i hi => by
        have h9 := (waysF_tame HH.out.2.2.2.2.2.1).2 i hi
        omega) w1 (graph_gz hu' hne))
      rw [waysF_len, ← HH.out.1] at HC
      rw [← HH.out.1]
      have H1 := Lib.hid (And.intro hu' (And.intro hne (below_tr H0.out hb1)))
      obtain ⟨er, her⟩ : ∃ e, e = errF (waysF f) := ⟨_, rfl⟩
      rw [← her] at HC
      have HER := Lib.hid her
      clear x0 x1 x2 x3 hu hu' hne hat hb1 her
      go_wp2_with fail
      refine HC.out.mono ?_
      rintro e w1' ⟨rfl, rfl⟩
      by_cases p0 : er = 0
      · have g0 : (er != 0) = false := by simpa using p0
        have herr : errF (waysF f) = 0 := by rw [← HER.out]; exact p0
        have hGB : GrB w1.heap.size w1 g (gN f) := grB_of' H1.out.1 H1.out.2.1 herr
        have hGO : GOk (gN f) := natG_ok herr
        have hGl : (gN f).length = n := by rw [gN_len, HH.out.1]
        have hrow : ∀ i, (row (gN f) i).length ≤ 1000 := fun i => (waysF_tame HH.out.2.2.2.2.2.1).row i
        have H2 := Lib.hid (And.intro herr (And.intro hGB (And.intro hGO (And.intro hGl hrow))))
        have HR := Lib.hid (Reach_any g gc n 0 (-1) (gN f) hGO hGl (by omega) hrow HN1.out w1 hGB)
        clear herr hGB hGO hGl hrow p0
        go_wp2_with fail
        refine HR.out.mono ?_
        rintro e w2 ⟨br, bs, rfl, kr, lr, hRB, _, hb2⟩
        have HRB := Lib.hid (And.intro (fun i => reach_all hRB i) (And.intro kr (And.intro lr (below_tr H1.out.2.2 hb2))))
        have HS2 := Lib.hid (show RF2 w2 f (I 0) w2 from ⟨0, Nat.zero_le _, rfl, fun j h => absurd h (by omega), rfl⟩)
        have HB12 := Lib.hid hb2
        clear kr lr hRB hb2
        go_wp2_with fail
        go_loopw [109] (fun iv W => RF2 w2 f iv W) (fun iv _ => n - (intOf iv).toNat)
        case atStart => exact HS2.out
        case round =>
          obtain ⟨i, hi, rfl, hrs, rfl⟩ := hrel
          clear HS2
          by_cases hin : i < n
          · have d0 : decide (i < n) = true := by simpa using hin
            have d1 : (0 : Int) ≤ (i : Int) := by omega
            have d2 : (i : Int) < (n : Int) := by omega
            have il : i < f.blocks.length := by have := HH.out.1; omega
            obtain ⟨A, hA⟩ : ∃ A, A = bs.getD i false := ⟨_, rfl⟩
            have c1 := HRB.out.2.1.get i (.bool A) (by rw [hA]; exact arrB_getD bs i false (by rw [HRB.out.2.2.1]; exact hin))
            have hA' := HRB.out.1 i
            rw [← hA] at hA'
            cases A
            · have HF := Lib.hid (HNO.out (fun h => absurd (hA'.2 (h.2.2.2.1 i il)) (by decide)) wr HRB.out.2.2.2)
              clear hrs hA hA' hin hi
              go_wp2_with fail
              go_ret
              exact HF.out
            · have HF := Lib.hid (show RF2 wr f (I ((i : Int) + 1)) wr from ⟨i + 1, il, rfl, fun j hji => by
                rcases Nat.lt_or_ge j i with h | h
                · exact hrs j h
                · obtain rfl : j = i := by omega
                  exact hA'.1 (by first | rfl | trivial), rfl⟩)
              have HI := Lib.hid hin
              clear hrs hA hA' hin hi
              go_wp2_with fail
              exact ⟨HF.out, by have := HI.out; simp [intOf]; omega⟩
          · have d0 : decide (i < n) = false := by simpa using hin
            have HRC := Lib.hid (show ∀ j, j < f.blocks.length → Rch (gN f) j from fun j hj => hrs j (by have := HH.out.1; omega))
            have HIn := Lib.hid (refIntoG_any g gc n (gN f) H2.out.2.2.2.1 (by have := HH.out.2.2.2.2.2.1; have := HH.out.1; omega) H2.out.2.2.2.2 wr ((H2.out.2.1.below HB12.out).up HB12.out.size (Nat.le_refl _)))
            clear hrs hin hi
            go_wp2_with fail
            refine HIn.out.mono ?_
            rintro e w3 ⟨u, rfl, hou, hb3⟩
            obtain ⟨bg, gc2, rfl, hir⟩ := intoR_of hou (by have := HN1.out; have := HH.out.1; omega)
            rw [← HH.out.1]
            obtain ⟨a0, c0, cz0, _⟩ := hir.2 0 (by have := HN1.out; have := HH.out.1; omega)
            obtain ⟨m0, hm0⟩ : ∃ m, m = (intoN f 0).length := ⟨_, rfl⟩
            rw [← hm0] at cz0
            have e1 : (0 : Int) < (n : Int) := by have := HN1.out; omega
            have HI3 := Lib.hid (And.intro hir (And.intro (below_tr HRB.out.2.2.2 hb3) (below_tr HB12.out hb3)))
            clear hou hir hb3
            by_cases p1 : m0 = 0
            · have g1 : decide (0 < m0) = false := decide_eq_false (by omega)
              have h00 := Lib.hid (List.length_eq_zero_iff.1 (hm0.symm.trans p1))
              have HD := Lib.hid (DomsG_any g gc n (gN f) H2.out.2.2.1 H2.out.2.2.2.1 (by have := HH.out.2.2.2.2.2.1; have := HH.out.1; omega) HN1.out H2.out.2.2.2.2 w3 ((H2.out.2.1.below HI3.out.2.2).up HI3.out.2.2.size (Nat.le_refl _)))
              clear p1 hm0
              go_wp2_with fail
              refine HD.out.mono ?_
              rintro e w4 ⟨bo, vs, rfl, hDS⟩
              have hb4 := hDS.be
              have hk4 := (HK.out.below HI3.out.2.1).below hb4
              have x3 := hk4.k3.get 3 (.slice ba n bc) rfl
              have hDK : DomK bo f w4 := domK_of (by rw [HH.out.1] at hDS; exact hDS)
              have il : 0 < f.blocks.length := by have := HN1.out; have := HH.out.1; omega
              obtain ⟨g1, _, e2, gl, cw, pv, iv, rfl, hpz, hiz⟩ := hk4.bb.at 0 il
              subst e2
              obtain ⟨x, hx⟩ : ∃ x, x = f.blocks[0] := ⟨_, rfl⟩
              rw [← hx] at cw
              obtain ⟨pa, pc, hpv⟩ := hpz.size
              rw [← hx] at hpv
              obtain ⟨PL, hP⟩ : ∃ P, P = x.phis.length := ⟨_, rfl⟩
              subst hpv
              rw [← hP] at cw
              have y0 : w4.cell? (g1.add 0) = _ := cw.f0
              have y0' : w4.cell? g1 = _ := cw.f0
              have H4 := Lib.hid (And.intro (below_tr HI3.out.2.1 hb4) (And.intro hDK (HI3.out.1.below hb4)))
              clear hDS hb4 hk4 hDK gl cw hpz hiz cz0
              by_cases p2 : PL = 0
              · have g2 : decide (0 < PL) = false := decide_eq_false (by omega)
                have hp0 := Lib.hid (show ∀ (h : 0 < f.blocks.length), f.blocks[0].phis = [] from fun h => by rw [← hx]; exact List.length_eq_zero_iff.1 (hP.symm.trans p2))
                have HS3 := Lib.hid (show RF3 w4 c f (I 0) w4 from ⟨0, Nat.zero_le _, rfl, fun j _ h => absurd h (by omega), Below.refl _ _⟩)
                clear p2 hP hx
                go_wp2_with fail
                clear x3 y0 y0'
                refine block_loop _ w W1 w4 c f b2 b3 bg bo n bc gc2 fa sa g1 F fc T sc pr vr vl mn _ _ _ _ _ _ _ _ _ _ _ _ _ _ _ _ _ _ _ _ _ _ _ _ _ _ _ _ _ _ _ _ _ _ _ _ _ _ _ _ _ _ _ _ _ _ _ _ _ _ _ _ _ _ _ _ _ _ _ _ _ _ _ _ _ _ _ _ _ _ _ _ _ _ _ _ _ _ _ _ _ _ _ _ _ _ _ _ _ _ _ _ _ _ _ _ _ _ _ _ _ _ _ _ _ _ _ _ _ _ _ _ _ _ _ _ _ _ _ _ _ _ _ _ _ _ _ _ _ _ _ _ _ _ _ _ _ _ _ _ _ _ _ _ _ _ _ _ _ _ _ _ _ _ _ _ _ _ _ _ _ _ _ _ _ _ _ _ _ _ _ _ _ _ _ _ _ _ _ _ _ _ _ _ _ _ _ _ _ _ _ _ _ _ _ _ _ _ _ _ _ _ _ _ _ _ _ _ _ _ _ _ _ _ _ _ _ _ _ _ _ _ _ _ _ _ _ _ _ _ _ _ _ _ _ _ _ _ _ _ _ _ _ _ _ _ _ _ _ _ _ _ _ _ _ _ _ _ _ _ _ _ _ _ _ _ _ _ _ _ _ _ _ _ _ _ _ _ _ _ _ _ _ _ _ _ _ _ _ _ _ _ _ _ _ _ _ _ _ _ _ _ _ _ _ _ _ _ _ _ _ _ _ _ _ _ _ _ _ _ _ _ _ _ _ _ _ _ _ _ _ _ _ _ _ _ _ _ _ _ _ _ _ _ _ _ _ _ _ _ _ _ _ _ _ _ _ _ _ _ _ _ _ _ _ _ _ _ _ _ _ _ _ _ _ _ _ _ _ _ _ _ _ _ _ _ _ _ _ _ _ _ _ _ _ _ _ _ _ _ _ _ _ _ _ _ _ _ _ _ _ _ _ _ _ _ _ _ _ _ _ _ _ _ _ _ _ _ _ _ HH HP HK HM HY (Lib.hid ⟨H4.out.1, H4.out.2.1, H4.out.2.2⟩) HNO (Lib.hid fun a W' h4 hd ht => bodyPost_ret (results_tmp rfl _ _ _) hd (by rw [show a.tmps.getD 4 undef = .bool false by simp [h4]]; exact ht)) ?_ hnb hFb hTb
                refine Lib.hid ?_
                intro u4 u12 u13 u15 u16 u17 u18 u19 u20 u21 u22 u23 u24 u25 u26 u27 u29 u30 u32 u136 u137 u138 u139 u140 u141 u142 u143 u144 u145 u146 u147 u148 u149 u150 u151 u152 u153 u154 u155 u156 u157 u158 u159 u160 u161 u162 u163 u164 u165 u166 u167 u168 u169 u170 u171 u172 u173 u174 u175 u176 u177 u178 u179 u180 u181 u182 u183 u184 u185 u186 u187 u188 u189 u190 u191 u192 u193 u194 u195 u196 u197 u198 u199 u200 u201 u202 u203 u204 u205 u206 u207 u208 u209 u210 u211 u212 u213 u214 u215 u216 u217 u218 u219 u220 u221 u222 u223 u224 u225 u226 u227 u228 u229 u230 u231 u232 u233 u234 u235 u236 u237 u238 u239 u240 u241 u242 u243 u244 u245 u246 u247 u248 u249 u250 u251 u252 u253 u254 u255 u256 u257 u258 u259 u260 u261 u262 u263 u264 u265 u266 u267 u268 u269 u270 u271 u272 u273 u274 u275 u276 u277 u278 u279 u280 u281 u282 u283 u284 u285 u286 u287 u288 u289 u290 u291 u292 u293 u294 u295 u296 u297 u298 u299 u300 u301 u302 u303 u304 u305 u306 u307 u308 u309 u310 u311 u312 u313 u314 u315 u316 u317 u318 u319 u320 u321 u322 u323 u324 u325 u326 u327 u328 u329 u330 u331 u332 u333 u334 u335 u336 u337 u338 u339 u340 u341 u342 u343 u344 u345 u346 u347 u348 u349 u350 u351 u352 u353 u354 u355 u356 u357 u358 u359 u360 u361 u362 u363 u364 u365 u366 u367 u368 u369 u370 u371 u372 u373 u374 u375 u376 u377 u378 u379 u380 u381 u382 u383 u384 u385 u386 u387 u388 u389 u390 u391 u392 u393 u394 u395 u396 u397 u398 u399 u400 u401 u402 u403 u404 u405 u406 u407 u408 u409 u410 u411 u412 u413 u414 u415 u416 u417 u418 u419 u420 u421 u422 u423 u424 u425 u426 u427 u428 u429 u430 u431 u432 u433 u434 u435 u436 wr hbs hb0
                have HF := Lib.hid (HYES.out ⟨HSZ.out, hE.out, H2.out.1, HRC.out, h00.out, hp0.out, fun j hj => hbs j hj⟩ wr (below_tr H4.out.1 hb0))
                clear hbs hb0
                dsimp only [Exit.inBlock]
                go_wp2_with fail
                go_ret
                exact HF.out
              · have g2 : decide (0 < PL) = true := decide_eq_true (by omega)
                have HF := Lib.hid (HNO.out (fun h => p2 (by rw [hP, hx, h.2.2.2.2.2.1 il]; rfl)) w4 H4.out.1)
                clear p2 hP hx
                go_wp2_with fail
                go_ret
                exact HF.out
            · have g1 : decide (0 < m0) = true := decide_eq_true (by omega)
              have HF := Lib.hid (HNO.out (fun h => p1 (by rw [hm0, h.2.2.2.2.1]; rfl)) w3 HI3.out.2.1)
              clear p1 hm0
              go_wp2_with fail
              go_ret
              exact HF.out
      · have g0 : (er != 0) = true := by simpa using p0
        have HF := Lib.hid (HNO.out (fun h => p0 (by rw [HER.out]; exact h.2.2.1)) w1 H1.out.2.2)
        clear p0
        go_wp2_with fail
        go_ret
        exact HF.out
end Go.Proofs.Ytjlmkcamefaodaa
