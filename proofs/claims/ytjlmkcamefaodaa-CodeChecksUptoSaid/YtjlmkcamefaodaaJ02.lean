/-
  Joined: CdF.
-/
import Derived.Test.YtjlmkcamefaodaaJ01
/-! CdF: Is code small enough: the document's question, walked. -/

namespace Go.Proofs.Ytjlmkcamefaodaa
open Go Go.RowKit Cd

namespace Cd
def sumN {α : Type} (f : α → Nat) (l : List α) : Nat := (l.map f).sum
theorem sumN_drop {α : Type} (f : α → Nat) {l : List α} {i : Nat} (h : i < l.length) : sumN f (l.drop i) = f l[i] + sumN f (l.drop (i + 1)) := by
  unfold sumN
  rw [List.drop_eq_getElem_cons h, List.map_cons, List.sum_cons]
theorem sumN_end {α : Type} (f : α → Nat) {l : List α} {i : Nat} (h : l.length ≤ i) : sumN f (l.drop i) = 0 := by
  rw [List.drop_eq_nil_of_le h]; rfl
theorem sumN_all {α : Type} (f : α → Nat) (l : List α) : sumN f (l.drop 0) = sumN f l := by rw [List.drop_zero]
def instN (x : InstP) : Nat := 1 + x.args.length + x.dbg.length
def blockN (b : BlockP) : Nat := sumN instN b.phis + sumN instN b.insts
def funN (f : FunP) : Nat := f.blocks.length + sumN blockN f.blocks
def totN (c : CodeP) : Nat := c.funs.length + c.stops.length + sumN List.length c.stops + sumN funN c.funs
def funOk (f : FunP) : Bool := !(decide (2000 < f.vals)) && !(decide (150 < f.blocks.length))
def fewB (c : CodeP) : Bool := c.funs.all funOk && decide (totN c ≤ 3000)
def rest4 (b : BlockP) (k : Nat) : Nat := if k = 0 then blockN b else if k = 1 then sumN instN b.insts else 0
theorem few_no {c : CodeP} {i : Nat} (hi : i < c.funs.length) (h : funOk c.funs[i] = false) : fewB c = false := by
  unfold fewB
  rw [Bool.and_eq_false_iff]
  left
  rw [List.all_eq_false]
  exact ⟨c.funs[i], List.getElem_mem hi, by rw [h]; decide⟩
theorem few_yes {c : CodeP} (h : ∀ i (hi : i < c.funs.length), funOk c.funs[i] = true) : fewB c = decide (totN c ≤ 3000) := by
  unfold fewB
  rw [show c.funs.all funOk = true from List.all_eq_true.2 fun f hf => by
    obtain ⟨i, hi, e⟩ := List.getElem_of_mem hf
    rw [← e]; exact h i hi, Bool.true_and]
end Cd

def FW2 (W0 : World) (c : CodeP) (nv iv : Value) (W : World) : Prop := ∃ i s : Nat, i ≤ c.funs.length ∧ iv = I (i : Int) ∧ nv = I (s : Int) ∧ s + sumN funN (c.funs.drop i) = totN c ∧ (∀ j (hj : j < c.funs.length), j < i → funOk c.funs[j] = true) ∧ Below W0.heap.size W0 W
def FW3 (W0 : World) (l : List BlockP) (r t : Nat) (nv iv : Value) (W : World) : Prop := ∃ i s : Nat, i ≤ l.length ∧ iv = I (i : Int) ∧ nv = I (s : Int) ∧ s + sumN blockN (l.drop i) + r = t ∧ Below W0.heap.size W0 W
def FW4 (W0 : World) (b : BlockP) (r t : Nat) (nv iv : Value) (W : World) : Prop := ∃ i s : Nat, i ≤ 2 ∧ iv = I (i : Int) ∧ nv = I (s : Int) ∧ s + rest4 b i + r = t ∧ Below W0.heap.size W0 W
def FW5 (W0 : World) (l : List InstP) (r t : Nat) (nv iv : Value) (W : World) : Prop := ∃ i s : Nat, i ≤ l.length ∧ iv = I (i : Int) ∧ nv = I (s : Int) ∧ s + sumN instN (l.drop i) + r = t ∧ Below W0.heap.size W0 W

set_option maxRecDepth 100000 in
set_option maxHeartbeats 3200000 in
theorem few_any (v : Value) (c : CodeP) (hT : totN c ≤ 4000000) (w : World) (h : CodeZ w v c) :
    Calls Try.prog 6 #[v] w fun e w' => e = .returned (.bool (fewB c)) ∧ Below w.heap.size w w' := by
  obtain ⟨fv, sv, rfl, hF, hS⟩ := h
  obtain ⟨fa, fc, rfl⟩ := hF.size
  obtain ⟨sa, sc, rfl⟩ := hS.size
  obtain ⟨nf, hnf⟩ : ∃ n, n = c.funs.length := ⟨_, rfl⟩
  obtain ⟨ns, hns⟩ : ∃ n, n = c.stops.length := ⟨_, rfl⟩
  obtain ⟨t, ht⟩ : ∃ t, t = totN c := ⟨_, rfl⟩
  have htt : totN c = nf + ns + sumN List.length c.stops + sumN funN c.funs := by rw [hnf, hns]; rfl
  rw [← hnf] at hF ⊢
  rw [← hns] at hS ⊢
  have q0 : (nf : Int) ≤ 4000000 := by omega
  have q1 : (ns : Int) ≤ 4000000 := by omega
  obtain ⟨W0, hW0⟩ : ∃ W, W = w.alloc (.cells #[.slice fa nf fc, .slice sa ns sc, I c.main] 25) := ⟨_, rfl⟩
  have hb0 : Below w.heap.size w W0 := by rw [hW0]; exact (Below.refl _ _).alloc (Nat.le_refl _) _
  obtain ⟨B, hB⟩ : ∃ B, B = w.heap.size := ⟨_, rfl⟩
  have kB : Blk B #[.slice fa nf fc, .slice sa ns sc, I c.main] 25 W0 := by rw [hB, hW0]; exact Blk.new _ _ _
  have x0 := kB.get 0 (.slice fa nf fc) rfl
  have x1 := kB.get 1 (.slice sa ns sc) rfl
  have HH := Lib.hid (And.intro (hF.below funV_stays hb0) (And.intro (hS.below stopV_stays hb0) (And.intro hnf (And.intro hns (And.intro ht (And.intro htt (And.intro hT hb0)))))))
  have HW := Lib.hid (And.intro hW0 hB)
  clear hF hS hnf hns ht htt hT hW0 hB hb0 kB
  go_enter Try.func6, Try.ntmps6
  go_upto_region 1 with (fail)
  rw [← HW.out.2]
  change Code.wp _ _ _ _ (w.alloc (.cells #[.slice fa nf fc, .slice sa ns sc, I c.main] 25))
  rw [← HW.out.1]
  go_wp2_with fail
  go_loop [3, 24] (fun nv iv => ∃ i s : Nat, i ≤ ns ∧ iv = I (i : Int) ∧ nv = I (s : Int) ∧ s + sumN List.length (c.stops.drop i) + sumN funN c.funs = totN c) (fun _ iv => ns - (intOf iv).toNat)
  case atStart => exact ⟨0, nf + ns, Nat.zero_le _, rfl, by simp, by rw [sumN_all, HH.out.2.2.2.2.2.1]⟩
  case round =>
    obtain ⟨i, s, hi, rfl, rfl, hs⟩ := hrel
    by_cases hin : i < ns
    · have hil : i < c.stops.length := by rw [← HH.out.2.2.2.1]; exact hin
      obtain ⟨b, _, rfl, hbl, c00, slv, rfl, hsl⟩ := HH.out.2.1.at i hil
      have c0 := c00.f0
      rw [Nat.mul_one] at c0
      clear c00
      obtain ⟨la, lc, rfl⟩ := hsl.size
      obtain ⟨L, hL⟩ : ∃ L, L = c.stops[i].length := ⟨_, rfl⟩
      have hd := sumN_drop List.length hil
      rw [← hL] at c0 hd
      have hb1 : (s : Int) + (L : Int) ≤ 4000000 := by have := HH.out.2.2.2.2.2.2.1; omega
      have hb2 : (L : Int) ≤ 4000000 := by omega
      have d0 : decide (i < ns) = true := by simpa using hin
      have d1 : (0 : Int) ≤ (i : Int) := by omega
      have d2 : (i : Int) < (ns : Int) := by omega
      have HN := Lib.hid (show s + L + sumN List.length (c.stops.drop (i + 1)) + sumN funN c.funs = totN c by omega)
      have HI := Lib.hid hin
      clear hL hd hs hi hin hil hsl hbl
      go_wp2_with fail
      go_round
      case rel => exact ⟨i + 1, s + L, HI.out, by go_num, by go_num, HN.out⟩
      case measure => have := HI.out; simp [intOf]; omega
    · have d0 : decide (i < ns) = false := by simpa using hin
      have hs2 : s + sumN funN c.funs = totN c := by
        rw [sumN_end List.length (by rw [← HH.out.2.2.2.1]; omega)] at hs
        omega
      have HST := Lib.hid (show FW2 W0 c (I (s : Int)) (I 0) W0 from ⟨0, s, Nat.zero_le _, rfl, rfl, by rw [sumN_all]; exact hs2, fun j _ h => absurd h (by omega), Below.refl _ _⟩)
      clear hs hs2 hi hin
      go_wp2_with fail
      go_loopw [3, 36] (fun nv iv W => FW2 W0 c nv iv W) (fun _ iv _ => nf - (intOf iv).toNat)
      case atStart => exact HST.out
      case round =>
        obtain ⟨i, s, hi, rfl, rfl, hs, hok, hbe⟩ := hrel
        clear x0 x1
        by_cases hin : i < nf
        · have hil : i < c.funs.length := by rw [← HH.out.2.2.1]; exact hin
          obtain ⟨b, _, rfl, hbl, c0, bv, rfl, hbz⟩ := (HH.out.1.below funV_stays hbe).at i hil
          obtain ⟨ba, bc, rfl⟩ := hbz.size
          obtain ⟨f, hf⟩ : ∃ f, f = c.funs[i] := ⟨_, rfl⟩
          rw [← hf] at c0 hbz
          obtain ⟨L, hL⟩ : ∃ L, L = f.blocks.length := ⟨_, rfl⟩
          rw [← hL] at c0 hbz
          have x0 := c0.f0
          have x1 := c0.f1
          have x2 := c0.f2
          have x3 := c0.f3
          have hd := sumN_drop funN hil
          rw [← hf] at hd
          have hfn : funN f = L + sumN blockN f.blocks := by rw [hL]; rfl
          have d0 : decide (i < nf) = true := by simpa using hin
          have d1 : (0 : Int) ≤ (i : Int) := by omega
          have d2 : (i : Int) < (nf : Int) := by omega
          have e1 : (s : Int) + (L : Int) ≤ 4000000 := by have := HH.out.2.2.2.2.2.2.1; omega
          have e2 : (L : Int) ≤ 4000000 := by omega
          have HNO : Hid (funOk f = false → fewB c = false) := fun h => few_no hil (by rw [← hf]; exact h)
          have HYES : Hid (funOk f = true → ∀ j (hj : j < c.funs.length), j < i + 1 → funOk c.funs[j] = true) := fun h j hj hlt => by
            rcases Nat.lt_or_ge j i with h2 | h2
            · exact hok j hj h2
            · obtain rfl : j = i := by omega
              rw [← hf]; exact h
          have HX := Lib.hid (And.intro hs (And.intro hbe (And.intro hbz (And.intro hL (And.intro hd (And.intro hfn hin))))))
          clear c0 hbz hL hd hfn hs hok hbe hbl hi hf HST hil hin
          by_cases hv : 2000 < f.vals
          · have g1 : decide ((2000 : Int) < f.vals) = true := by simpa using hv
            have FIN := Lib.hid (show fewB c = false from HNO.out (by unfold funOk; rw [g1]; rfl))
            have hb9 : Below w.heap.size w (wr.alloc (.cells #[I f.params, I f.vars, I f.vals, .slice ba L bc] 36)) := (below_tr HH.out.2.2.2.2.2.2.2 HX.out.2.1).alloc (below_tr HH.out.2.2.2.2.2.2.2 HX.out.2.1).size _
            have HB9 := Lib.hid hb9
            clear hb9 hv
            go_wp2_with fail
            go_ret
            exact ⟨congrArg (fun q => Ending.returned (.bool q)) FIN.out.symm, HB9.out⟩
          · have g1 : decide ((2000 : Int) < f.vals) = false := by simpa using hv
            by_cases hl : 150 < L
            · have g2 : decide ((150 : Int) < (L : Int)) = true := by rw [decide_eq_true_eq]; omega
              have FIN := Lib.hid (show fewB c = false from HNO.out (by unfold funOk; rw [g1, ← HX.out.2.2.2.1, decide_eq_true hl]; rfl))
              have hb9 : Below w.heap.size w (wr.alloc (.cells #[I f.params, I f.vars, I f.vals, .slice ba L bc] 36)) := (below_tr HH.out.2.2.2.2.2.2.2 HX.out.2.1).alloc (below_tr HH.out.2.2.2.2.2.2.2 HX.out.2.1).size _
              have HB9 := Lib.hid hb9
              clear hb9 hv hl
              go_wp2_with fail
              go_ret
              exact ⟨congrArg (fun q => Ending.returned (.bool q)) FIN.out.symm, HB9.out⟩
            · have g2 : decide ((150 : Int) < (L : Int)) = false := by rw [decide_eq_false_iff_not]; omega
              have HOK := Lib.hid (show funOk f = true by unfold funOk; rw [g1, ← HX.out.2.2.2.1, decide_eq_false hl]; rfl)
              obtain ⟨W3, hW3⟩ : ∃ W, W = wr.alloc (.cells #[I f.params, I f.vars, I f.vals, .slice ba L bc] 36) := ⟨_, rfl⟩
              have hb3 : Below wr.heap.size wr W3 := by rw [hW3]; exact (Below.refl _ _).alloc (Nat.le_refl _) _
              have HST3 := Lib.hid (show FW3 W3 f.blocks (sumN funN (c.funs.drop (i + 1))) (totN c) (I ((s : Int) + (L : Int))) (I 0) (wr.alloc (.cells #[I f.params, I f.vars, I f.vals, .slice ba L bc] 36)) from ⟨0, s + L, Nat.zero_le _, rfl, by simp, by rw [sumN_all]; have := HX.out.1; have := HX.out.2.2.2.2.1; have := HX.out.2.2.2.2.2.1; omega, by rw [hW3]; exact Below.refl _ _⟩)
              have HB3 := Lib.hid (And.intro (HX.out.2.2.1.below blockV_stays hb3) hb3)
              have HW3 := Lib.hid hW3
              clear hW3 hb3 hv hl
              go_wp2_with fail
              go_loopw [3, 57] (fun nv iv W => FW3 W3 f.blocks (sumN funN (c.funs.drop (i + 1))) (totN c) nv iv W) (fun _ iv _ => L - (intOf iv).toNat)
              case atStart => exact HST3.out
              case round =>
                obtain ⟨k, s, hk, rfl, rfl, hs, hbe⟩ := hrel
                clear x0 x1 x2 x3 d0 e1
                by_cases hkn : k < L
                · have hkl : k < f.blocks.length := by rw [← HX.out.2.2.2.1]; exact hkn
                  obtain ⟨b, _, rfl, hbl, c0, pv, iv, rfl, hpz, hiz⟩ := (HB3.out.1.below blockV_stays hbe).at k hkl
                  obtain ⟨pa, pc, rfl⟩ := hpz.size
                  obtain ⟨ia, ic, rfl⟩ := hiz.size
                  obtain ⟨bk, hbk⟩ : ∃ z, z = f.blocks[k] := ⟨_, rfl⟩
                  rw [← hbk] at c0 hpz hiz
                  obtain ⟨P, hP⟩ : ∃ P, P = bk.phis.length := ⟨_, rfl⟩
                  obtain ⟨J, hJ⟩ : ∃ J, J = bk.insts.length := ⟨_, rfl⟩
                  rw [← hP, ← hJ] at c0
                  rw [← hP] at hpz
                  rw [← hJ] at hiz
                  have x0 := c0.f0
                  have x1 := c0.f1
                  have x2 := c0.f2
                  have x3 := c0.f3
                  have x4 := c0.f4
                  have x5 := c0.f5
                  have hd := sumN_drop blockN hkl
                  rw [← hbk] at hd
                  obtain ⟨W4, hW4⟩ : ∃ W, W = (wr.alloc (.cells #[.slice pa P pc, .slice ia J ic, U8 bk.fin, I bk.arg, I bk.to, I bk.els] 40)).alloc (.cells #[.slice pa P pc, .slice ia J ic] 38) := ⟨_, rfl⟩
                  have hb4 : Below wr.heap.size wr W4 := by rw [hW4]; exact ((Below.refl _ _).alloc (Nat.le_refl _) _).alloc (by simp) _
                  have k4 : Blk (wr.heap.size + 1) #[.slice pa P pc, .slice ia J ic] 38 W4 := by rw [hW4]; exact Blk.new' _ _ _ (by simp)
                  have HST4 := Lib.hid (show FW4 W4 bk (sumN blockN (f.blocks.drop (k + 1)) + sumN funN (c.funs.drop (i + 1))) (totN c) (I (s : Int)) (I 0) ((wr.alloc (.cells #[.slice pa P pc, .slice ia J ic, U8 bk.fin, I bk.arg, I bk.to, I bk.els] 40)).alloc (.cells #[.slice pa P pc, .slice ia J ic] 38)) from ⟨0, s, Nat.zero_le _, rfl, rfl, by unfold rest4; rw [if_pos rfl]; omega, by rw [hW4]; exact Below.refl _ _⟩)
                  obtain ⟨g4, hg4⟩ : ∃ g, g = wr.heap.size + 1 := ⟨_, rfl⟩
                  rw [← hg4] at k4
                  have HG4 := Lib.hid hg4
                  have H4 := Lib.hid (And.intro (hpz.below instV_stays hb4) (And.intro (hiz.below instV_stays hb4) (And.intro hP (And.intro hJ (And.intro k4 (And.intro hkn (below_tr hbe hb4)))))))
                  have dk0 : decide (k < L) = true := by simpa using hkn
                  have dk1 : (0 : Int) ≤ (k : Int) := by omega
                  have dk2 : (k : Int) < (L : Int) := by omega
                  clear c0 hpz hiz hbk hP hJ hd hW4 hb4 k4 hs hbe hbl hk hkn hkl hg4 HST3
                  go_wp2_with fail
                  rw [← HG4.out]
                  go_loopw [3, 67] (fun nv iv W => FW4 W4 bk (sumN blockN (f.blocks.drop (k + 1)) + sumN funN (c.funs.drop (i + 1))) (totN c) nv iv W) (fun _ iv _ => 2 - (intOf iv).toNat)
                  case atStart => exact HST4.out
                  case round =>
                    obtain ⟨m, s, hm, rfl, rfl, hs, hbe⟩ := hrel
                    clear x0 x1 x2 x3 x4 x5 dk0
                    by_cases hm2 : m < 2
                    · obtain ⟨l, la, lc, cm, hlz, hs2⟩ : ∃ (l : List InstP) (la : Option Addr) (lc : Nat), wr.cell? ⟨g4, m, none⟩ = some (.slice la l.length lc) ∧ InstsZ wr (.slice la l.length lc) l ∧ s + sumN instN l + rest4 bk (m + 1) + (sumN blockN (f.blocks.drop (k + 1)) + sumN funN (c.funs.drop (i + 1))) = totN c := by
                        rcases Nat.lt_or_ge m 1 with h | h
                        · obtain rfl : m = 0 := by omega
                          refine ⟨bk.phis, pa, pc, ?_, ?_, ?_⟩
                          · rw [← H4.out.2.2.1]; exact cell_below hbe H4.out.2.2.2.2.1.lt (H4.out.2.2.2.2.1.get 0 _ rfl)
                          · have := H4.out.1.below instV_stays hbe; rw [H4.out.2.2.1] at this; exact this
                          · unfold rest4 at hs ⊢; rw [if_pos rfl] at hs; rw [if_neg (by omega), if_pos rfl]; rw [show blockN bk = sumN instN bk.phis + sumN instN bk.insts from rfl] at hs; omega
                        · obtain rfl : m = 1 := by omega
                          refine ⟨bk.insts, ia, ic, ?_, ?_, ?_⟩
                          · rw [← H4.out.2.2.2.1]; exact cell_below hbe H4.out.2.2.2.2.1.lt (H4.out.2.2.2.2.1.get 1 _ rfl)
                          · have := H4.out.2.1.below instV_stays hbe; rw [H4.out.2.2.2.1] at this; exact this
                          · unfold rest4 at hs ⊢; rw [if_neg (by omega), if_pos rfl] at hs; rw [if_neg (by omega), if_neg (by omega)]; omega
                      obtain ⟨M, hM⟩ : ∃ M, M = l.length := ⟨_, rfl⟩
                      rw [← hM] at cm hlz
                      have hMb : (M : Int) ≤ 4000000 := by
                        have h1 : M ≤ sumN instN l := by
                          rw [hM]
                          clear hlz cm hM hs2
                          induction l with
                          | nil => exact Nat.zero_le _
                          | cons a l ih => unfold sumN at ih ⊢; rw [List.map_cons, List.sum_cons, List.length_cons]; unfold instN at ih ⊢; omega
                        have := HH.out.2.2.2.2.2.2.1
                        omega
                      have HST5 := Lib.hid (show FW5 wr l (rest4 bk (m + 1) + (sumN blockN (f.blocks.drop (k + 1)) + sumN funN (c.funs.drop (i + 1)))) (totN c) (I (s : Int)) (I 0) wr from ⟨0, s, Nat.zero_le _, rfl, rfl, by rw [sumN_all]; omega, Below.refl _ _⟩)
                      have H5 := Lib.hid (And.intro hlz (And.intro hM (And.intro hbe hm2)))
                      obtain ⟨w5, hw5⟩ : ∃ w5 : World, w5 = wr := ⟨_, rfl⟩
                      subst hw5
                      have dm0 : decide ((m : Int) < 2) = true := by rw [decide_eq_true_eq]; omega
                      have dm1 : (0 : Int) ≤ (m : Int) := by omega
                      have dm2 : (m : Int) < 2 := by omega
                      clear hlz hM hbe hs hs2 hm hm2 HST4
                      go_wp2_with fail
                      go_loopw [3, 73] (fun nv iv W => FW5 w5 l (rest4 bk (m + 1) + (sumN blockN (f.blocks.drop (k + 1)) + sumN funN (c.funs.drop (i + 1)))) (totN c) nv iv W) (fun _ iv _ => M - (intOf iv).toNat)
                      case atStart => exact HST5.out
                      case round =>
                        obtain ⟨j, s, hj, rfl, rfl, hs, hbe⟩ := hrel
                        clear cm dm0
                        by_cases hjM : j < M
                        · have hjl : j < l.length := by rw [← H5.out.2.1]; exact hjM
                          obtain ⟨b, _, rfl, hbl, c0, av, dv, rfl, haz, hdz⟩ := (H5.out.1.below instV_stays hbe).at j hjl
                          obtain ⟨aa, ac, rfl⟩ := haz.size
                          obtain ⟨da, dc, rfl⟩ := hdz.size
                          have hd := sumN_drop instN hjl
                          obtain ⟨x, hx⟩ : ∃ z, z = l[j] := ⟨_, rfl⟩
                          rw [← hx] at c0 hd
                          obtain ⟨A, hA⟩ : ∃ A, A = x.args.length := ⟨_, rfl⟩
                          obtain ⟨D, hD⟩ : ∃ D, D = x.dbg.length := ⟨_, rfl⟩
                          rw [← hA, ← hD] at c0
                          have hin : instN x = 1 + A + D := by rw [hA, hD]; rfl
                          have x0 := c0.f0
                          have x1 := c0.f1
                          have x2 := c0.f2
                          have x3 := c0.f3
                          have x4 := c0.f4
                          have x5 := c0.f5
                          have hb9 : Below w5.heap.size w5 (wr.alloc (.cells #[U8 x.op, I x.dst, .slice aa A ac, I x.imm, I x.site, .slice da D dc] 44)) := hbe.alloc hbe.size _
                          have HN := Lib.hid (show FW5 w5 l (rest4 bk (m + 1) + (sumN blockN (f.blocks.drop (k + 1)) + sumN funN (c.funs.drop (i + 1)))) (totN c) (I ((s : Int) + (1 + (A : Int) + (D : Int)))) (I ((j : Int) + 1)) (wr.alloc (.cells #[U8 x.op, I x.dst, .slice aa A ac, I x.imm, I x.site, .slice da D dc] 44)) from ⟨j + 1, s + (1 + A + D), hjl, rfl, by simp, by omega, hb9⟩)
                          have dj0 : decide (j < M) = true := by simpa using hjM
                          have dj1 : (0 : Int) ≤ (j : Int) := by omega
                          have dj2 : (j : Int) < (M : Int) := by omega
                          have dj3 : (s : Int) + (1 + (A : Int) + (D : Int)) ≤ 4000000 := by have := HH.out.2.2.2.2.2.2.1; omega
                          have HJ := Lib.hid hjM
                          clear c0 haz hdz hd hx hA hD hin hb9 hs hbe hbl hj hjM hjl HST5
                          go_wp2_with fail
                          exact ⟨HN.out, by have := HJ.out; simp [intOf]; omega⟩
                        · have dj0 : decide (j < M) = false := by simpa using hjM
                          rw [sumN_end instN (by have := H5.out.2.1; omega), Nat.add_zero] at hs
                          have HN := Lib.hid (show FW4 W4 bk (sumN blockN (f.blocks.drop (k + 1)) + sumN funN (c.funs.drop (i + 1))) (totN c) (I (s : Int)) (I ((m : Int) + 1)) wr from ⟨m + 1, s, by have := H5.out.2.2.2; omega, rfl, rfl, by omega, below_tr H5.out.2.2.1 hbe⟩)
                          clear hs hbe hj hjM HST5
                          go_wp2_with fail
                          exact ⟨HN.out, by have := H5.out.2.2.2; simp [intOf]; omega⟩
                    · have dm0 : decide ((m : Int) < 2) = false := by rw [decide_eq_false_iff_not]; omega
                      obtain rfl : m = 2 := by omega
                      have hs2 : s + (sumN blockN (f.blocks.drop (k + 1)) + sumN funN (c.funs.drop (i + 1))) = totN c := by unfold rest4 at hs; rw [if_neg (by omega), if_neg (by omega)] at hs; omega
                      have HN := Lib.hid (show FW3 W3 f.blocks (sumN funN (c.funs.drop (i + 1))) (totN c) (I (s : Int)) (I ((k : Int) + 1)) wr from ⟨k + 1, s, by have := H4.out.2.2.2.2.2.1; have := HX.out.2.2.2.1; omega, rfl, rfl, by omega, below_tr H4.out.2.2.2.2.2.2 hbe⟩)
                      clear hs hs2 hbe hm hm2 HST4
                      go_wp2_with fail
                      exact ⟨HN.out, by have := H4.out.2.2.2.2.2.1; simp [intOf]; omega⟩
                · have dk0 : decide (k < L) = false := by simpa using hkn
                  have hke : f.blocks.length ≤ k := by have := HX.out.2.2.2.1; omega
                  rw [sumN_end blockN hke, Nat.add_zero] at hs
                  have HN := Lib.hid (show FW2 W0 c (I (s : Int)) (I ((i : Int) + 1)) wr from ⟨i + 1, s, by have := HX.out.2.2.2.2.2.2; have := HH.out.2.2.1; omega, rfl, rfl, hs, HYES.out HOK.out, below_tr (below_tr HX.out.2.1 HB3.out.2) hbe⟩)
                  clear hs hbe hk hkn hke HST3
                  go_wp2_with fail
                  exact ⟨HN.out, by have := HX.out.2.2.2.2.2.2; simp [intOf]; omega⟩
        · have d0 : decide (i < nf) = false := by simpa using hin
          have hie : i = c.funs.length := by have := HH.out.2.2.1; omega
          rw [sumN_end funN (by omega), Nat.add_zero] at hs
          have hfe := few_yes (c := c) (fun j hj => hok j hj (by omega))
          have FIN := Lib.hid (show decide (s ≤ 3000) = fewB c by rw [hfe, hs])
          have HB9 := Lib.hid (below_tr HH.out.2.2.2.2.2.2.2 hbe)
          have e1 : (s : Int) ≤ 4000000 := by have := HH.out.2.2.2.2.2.2.1; omega
          clear hs hok hbe hin hi hie hfe HST
          by_cases h3 : s ≤ 3000
          · have g1 : decide ((s : Int) ≤ 3000) = true := by rw [decide_eq_true_eq]; omega
            have FIN2 := Lib.hid (show true = fewB c by rw [← FIN.out, decide_eq_true h3])
            clear h3
            go_wp2_with fail
            go_ret
            exact ⟨congrArg (fun q => Ending.returned (.bool q)) FIN2.out, HB9.out⟩
          · have g1 : decide ((s : Int) ≤ 3000) = false := by rw [decide_eq_false_iff_not]; omega
            have FIN2 := Lib.hid (show false = fewB c by rw [← FIN.out, decide_eq_false h3])
            clear h3
            go_wp2_with fail
            go_ret
            exact ⟨congrArg (fun q => Ending.returned (.bool q)) FIN2.out, HB9.out⟩
end Go.Proofs.Ytjlmkcamefaodaa
