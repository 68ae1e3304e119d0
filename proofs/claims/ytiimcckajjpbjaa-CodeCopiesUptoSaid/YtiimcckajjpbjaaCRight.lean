/-
  Code of one function of one block that answers a value: is it right?
-/
import Derived.Test.YtiimcckajjpbjaaCWays
namespace Go.Proofs.Ytiimcckajjpbjaa
open Go Go.RowKit Go.Maps Cd

/-- Code of one function of one block, in memory. -/
structure Cod (B bf bb bi k cap : Nat) (ks : Nat → Nat) (vals : Int) (w : World) : Prop where
  fn : Blk bf #[I 0, I 0, I vals, .slice (some ⟨bb, 0, none⟩) 1 1] 35 w
  bl : Blk1 bb bi k cap w
  ins : ∀ j, j < k → InsAt B w bi j (ks j)
  hf : bf < B
  hb : bb < B
  hB : B ≤ w.heap.size
  len : k ≤ 100000
abbrev codV (bf : Nat) : Value := .agg #[.slice (some ⟨bf, 0, none⟩) 1 1, .slice none 0 0, I 0]
abbrev codC (bf : Nat) : Obj := .cells #[.slice (some ⟨bf, 0, none⟩) 1 1, .slice none 0 0, I 0] 25

theorem Cod.below {B bf bb bi k cap : Nat} {ks : Nat → Nat} {vals : Int} {w w' : World} (h : Cod B bf bb bi k cap ks vals w) (hb : Below w.heap.size w w') : Cod B bf bb bi k cap ks vals w' :=
  have hs : Same B w w' := same_of_below hb h.hB
  ⟨hs.blk h.hf h.fn, hs.blk h.hb h.bl, fun j hj => (h.ins j hj).same hs, h.hf, h.hb, Nat.le_trans h.hB hb.size, h.len⟩

set_option maxRecDepth 100000 in
set_option maxHeartbeats 800000 in
theorem size_one (B bf bb bi k cap : Nat) (ks : Nat → Nat) (vals : Int) (w : World) (h : Cod B bf bb bi k cap ks vals w) :
    Calls Try.prog 13 #[codV bf] w fun e w' => e = .returned (I (k : Int)) ∧ Below w.heap.size w w' := by
  obtain ⟨W, hW⟩ : ∃ W, W = w.alloc (codC bf) := ⟨_, rfl⟩
  obtain ⟨W2, hW2⟩ : ∃ W2, W2 = W.alloc (funC bb vals) := ⟨_, rfl⟩
  obtain ⟨W3, hW3⟩ : ∃ W3, W3 = W2.alloc (blkC bi k cap) := ⟨_, rfl⟩
  obtain ⟨p1, hp1⟩ : ∃ p, p = w.heap.size := ⟨_, rfl⟩
  obtain ⟨p5, hp5⟩ : ∃ p, p = W.heap.size := ⟨_, rfl⟩
  obtain ⟨p7, hp7⟩ : ∃ p, p = W2.heap.size := ⟨_, rfl⟩
  have e1 : Below w.heap.size w W := by rw [hW]; exact (Below.refl _ _).alloc (Nat.le_refl _) _
  have e2 : Below W.heap.size W W2 := by rw [hW2]; exact (Below.refl _ _).alloc (Nat.le_refl _) _
  have e3 : Below W2.heap.size W2 W3 := by rw [hW3]; exact (Below.refl _ _).alloc (Nat.le_refl _) _
  have k1 : Blk p1 #[.slice (some ⟨bf, 0, none⟩) 1 1, .slice none 0 0, I 0] 25 W := by rw [hW, hp1]; exact Blk.new _ _ _
  have k5 : Blk p5 #[I 0, I 0, I vals, .slice (some ⟨bb, 0, none⟩) 1 1] 35 W2 := by rw [hW2, hp5]; exact Blk.new _ _ _
  have k7 : Blk1 p7 bi k cap W3 := by rw [hW3, hp7]; exact Blk.new _ _ _
  have h1 := h.below e1
  have h2 := h1.below e2
  have HW := Lib.hid (And.intro hW (And.intro hp1 (And.intro hW2 (And.intro hp5 (And.intro hW3 hp7)))))
  have FIN := Lib.hid (e1.trans ((e2.trans (e3.mono e2.size)).mono e1.size))
  have hkl := h.len
  have x0 := k1.get 0 (.slice (some ⟨bf, 0, none⟩) 1 1) rfl
  have f0 := h1.fn.get 0 (I 0) rfl
  have f1 := h1.fn.get 1 (I 0) rfl
  have f2 := h1.fn.get 2 (I vals) rfl
  have f3 := h1.fn.get 3 (.slice (some ⟨bb, 0, none⟩) 1 1) rfl
  have g3 := k5.get 3 (.slice (some ⟨bb, 0, none⟩) 1 1) rfl
  have b0 := h2.bl.get 0 (.slice none 0 0) rfl
  have b1 := h2.bl.get 1 (.slice (some ⟨bi, 0, none⟩) k cap) rfl
  have b2 := h2.bl.get 2 (.int .u8 3) rfl
  have b3 := h2.bl.get 3 (I 0) rfl
  have b4 := h2.bl.get 4 (I 0) rfl
  have b5 := h2.bl.get 5 (I 0) rfl
  have y0 := k7.get 0 (.slice none 0 0) rfl
  have y1 := k7.get 1 (.slice (some ⟨bi, 0, none⟩) k cap) rfl
  clear h h1 h2 hW hW2 hW3 hp1 hp5 hp7 e1 e2 e3 k1 k5 k7
  go_enter Try.func13, Try.ntmps13
  go_upto_region 1 with (fail)
  rw [← HW.out.2.1]
  change Code.wp _ _ _ _ (w.alloc (codC bf))
  rw [← HW.out.1]
  go_wp2_with fail
  refine wp_loop_rounds 2 ?_
  rw [rounds_succ]
  go_upto_region 5 with (fail)
  rw [← HW.out.2.2.2.1]
  change Code.wp _ _ _ _ (W.alloc (funC bb vals))
  rw [← HW.out.2.2.1]
  go_wp2_with fail
  refine wp_loop_rounds 2 ?_
  rw [rounds_succ]
  go_upto_region 8 with (fail)
  rw [← HW.out.2.2.2.2.2]
  change Code.wp _ _ _ _ (W2.alloc (blkC bi k cap))
  rw [← HW.out.2.2.2.2.1]
  go_wp2_with fail
  rw [rounds_succ]
  go_wp2_with fail
  rw [rounds_succ]
  go_wp2_with fail
  go_ret
  exact ⟨rfl, FIN.out⟩

theorem Cod.same {B bf bb bi k cap : Nat} {ks : Nat → Nat} {vals : Int} {w w' : World} (h : Cod B bf bb bi k cap ks vals w) (hs : Same B w w') (hl : w.heap.size ≤ w'.heap.size) : Cod B bf bb bi k cap ks vals w' :=
  ⟨hs.blk h.hf h.fn, hs.blk h.hb h.bl, fun j hj => (h.ins j hj).same hs, h.hf, h.hb, Nat.le_trans h.hB hl, h.len⟩
theorem MadeW.grown {bm b : Nat} {f : Int → Option (Int × Int)} {n : Nat} {w w' : World} (h : MadeW bm f n w) (hg : w.grownBy w' (some b)) (hne : bm ≠ b) : MadeW bm f n w' := by
  obtain ⟨D, h1, h2⟩ := h
  exact ⟨D, h1.kept hg (by simpa using hne), h2⟩
theorem below_of_grown {B b : Nat} {w0 w w' : World} (h : Below B w0 w) (hg : w.grownBy w' (some b)) (hB : B ≤ w.heap.size) (hb : B ≤ b) : Below B w0 w' := h.grown hg hB (by intro k hk; simp at hk; omega)

set_option maxRecDepth 100000 in
set_option maxHeartbeats 800000 in
theorem isRight_one (B bf bb bi k cap : Nat) (ks : Nat → Nat) (vals : Int) (w : World) (h : Cod B bf bb bi k cap ks vals w) (hfr : 0 ≤ vals ∧ vals ≤ 60000 → ∀ j, j < k → ks j ≠ 40 → noteF ks j (dstOf (ks j)) = none ∧ 0 ≤ dstOf (ks j) ∧ dstOf (ks j) ≤ vals - 1) (hz : ∀ x, ((noteF ks k x).getD (0, 0)).1 = 0) :
    Calls Try.prog 25 #[codV bf] w fun e w' => e = .returned (.bool (decide (0 ≤ vals ∧ vals ≤ 60000) && usesB (noteF ks k) ks k)) ∧ Below w.heap.size w w' := by
  obtain ⟨W, hW⟩ : ∃ W, W = w.alloc (codC bf) := ⟨_, rfl⟩
  obtain ⟨p1, hp1⟩ : ∃ p, p = w.heap.size := ⟨_, rfl⟩
  have e1 : Below w.heap.size w W := by rw [hW]; exact (Below.refl _ _).alloc (Nat.le_refl _) _
  have k1 : Blk p1 #[.slice (some ⟨bf, 0, none⟩) 1 1, .slice none 0 0, I 0] 25 W := by rw [hW, hp1]; exact Blk.new _ _ _
  obtain ⟨W2, hW2⟩ : ∃ W2, W2 = ((W.alloc (funC bb vals)).alloc (.map #[] 0)).alloc (.cells #[I 0, I 0, I vals, .slice (some ⟨bb, 0, none⟩) 1 1, .slice (some ⟨bf, 0, none⟩) 1 1, .slice none 0 0, I 0, .slice none 0 0, .slice none 0 0, .slice none 0 0, .map (some (W.heap.size + 1))] 73) := ⟨_, rfl⟩
  have h1 := h.below e1
  have x0 := k1.get 0 (.slice (some ⟨bf, 0, none⟩) 1 1) rfl
  have x1 := k1.get 1 (.slice none 0 0) rfl
  have x2 := k1.get 2 (I 0) rfl
  have f0 := h1.fn.get 0 (I 0) rfl
  have f1 := h1.fn.get 1 (I 0) rfl
  have f2 := h1.fn.get 2 (I vals) rfl
  have f3 := h1.fn.get 3 (.slice (some ⟨bb, 0, none⟩) 1 1) rfl
  have hlt : p1 < W.heap.size := k1.lt
  have hne : ¬ p1 = W.heap.size := by omega
  have HW := Lib.hid (And.intro hW (And.intro hp1 hW2))
  have H1 := Lib.hid (And.intro e1 h1)
  have HF := Lib.hid (And.intro hfr hz)
  have hmm := @run_makeMap Try.prog
  clear h h1 hW hW2 hp1 e1 k1 hfr hz
  go_enter Try.func25, Try.ntmps25
  go_upto_region 1 with (fail)
  rw [← HW.out.2.1]
  change Code.wp _ _ _ _ (w.alloc (codC bf))
  rw [← HW.out.1]
  go_wp2_with fail
  refine wp_loop_rounds 1 ?_
  rw [rounds_succ]
  go_wp2_with fail
  refine wp_loop_rounds 2 ?_
  rw [rounds_succ]
  go_upto_region 13 with (fail)
  obtain ⟨bm, hbm⟩ : ∃ p, p = W.heap.size + 1 := ⟨_, rfl⟩
  obtain ⟨bk, hbk⟩ : ∃ p, p = W.heap.size + 1 + 1 := ⟨_, rfl⟩
  have e2 : Below W.heap.size W W2 := by rw [HW.out.2.2]; exact (((Below.refl _ _).alloc (Nat.le_refl _) _).alloc (by simp) _).alloc (by simp; omega) _
  have ck : Ck1 bk bm bb vals (.slice (some ⟨bf, 0, none⟩) 1 1) (.slice none 0 0) (I 0) (.slice none 0 0) (.slice none 0 0) (.slice none 0 0) W2 := by
    rw [HW.out.2.2, hbk, hbm]; exact Blk.new' _ _ _ (by simp)
  have md : MadeW bm (noteF ks 0) 0 W2 := by
    refine ⟨.map [], ?_, MadeIs.none⟩
    rw [HW.out.2.2, hbm]
    have := World.ownsMap_made (W.alloc (funC bb vals)) Try.prog 3 placeR
    rw [show (W.alloc (funC bb vals)).heap.size = W.heap.size + 1 by simp] at this
    exact this.alloc _
  have cd := H1.out.2.below e2
  have hBW : B ≤ W.heap.size := H1.out.2.hB
  have H2 := Lib.hid (And.intro (H1.out.1.trans (e2.mono H1.out.1.size)) (And.intro ck (And.intro md (And.intro cd (show B ≤ bm ∧ B ≤ bk ∧ bk ≠ bm ∧ bb ≠ bk ∧ w.heap.size ≤ bm ∧ w.heap.size ≤ bk by have := H1.out.1.size; have := H1.out.2.hb; omega)))))
  have HB := Lib.hid (And.intro hbm hbk)
  clear hbm hbk e2 ck md cd hBW x0 x1 x2 f0 f1 f2 f3 hlt hne
  rw [← HB.out.2]
  change Code.wp _ _ _ _ (((W.alloc (funC bb vals)).alloc (.map #[] 0)).alloc (.cells #[I 0, I 0, I vals, .slice (some ⟨bb, 0, none⟩) 1 1, .slice (some ⟨bf, 0, none⟩) 1 1, .slice none 0 0, I 0, .slice none 0 0, .slice none 0 0, .slice none 0 0, .map (some (W.heap.size + 1))] 73))
  rw [← HW.out.2.2]
  go_wp2_with fail
  refine (hasSizes_one bk bm bb vals _ _ _ _ _ _ W2 H2.out.2.1).mono ?_
  rintro e w' ⟨rfl, rfl⟩
  obtain ⟨d, hd⟩ : ∃ d, d = decide (0 ≤ vals ∧ vals ≤ 60000) := ⟨_, rfl⟩
  rw [← hd]
  have HD := Lib.hid hd
  clear hd
  cases d
  · go_wp2_with fail
    go_ret
    exact ⟨ret_bool (by rw [← HD.out]; rfl), H2.out.1⟩
  · have hv : 0 ≤ vals ∧ vals ≤ 60000 := of_decide_eq_true HD.out.symm
    have HV := Lib.hid hv
    clear hv
    go_wp2_with fail
    refine (hasWays_one bk bm bb bi k cap vals _ _ _ W2 H2.out.2.1 H2.out.2.2.2.1.bl H2.out.2.2.2.2.2.2.2.1).mono ?_
    rintro e w3 ⟨rfl, ⟨c7, c8, c9, ck3⟩, g3⟩
    have cd3 := H2.out.2.2.2.1.same (same_of_grown g3 H2.out.2.2.2.1.hB H2.out.2.2.2.2.2.1) g3.size
    have md3 := H2.out.2.2.1.grown g3 (Ne.symm H2.out.2.2.2.2.2.2.1)
    have b3 := below_of_grown H2.out.1 g3 H2.out.1.size H2.out.2.2.2.2.2.2.2.2.2
    have H3 := Lib.hid (And.intro ck3 (And.intro cd3 (And.intro md3 b3)))
    have HS := Lib.hid (hasShapes_one B bk bm bb bi k cap ks vals _ _ _ c7 c8 c9 w3 ⟨ck3, cd3.bl, cd3.hb, cd3.hB, H2.out.2.2.2.2.1, H2.out.2.2.2.2.2.2.1, cd3.ins, cd3.len, HV.out, HF.out.1 HV.out⟩ md3)
    clear ck3 cd3 md3 b3 g3
    go_wp2_with fail
    refine HS.out.mono ?_
    rintro e w4 ⟨rfl, md4, g4⟩
    have cd4 := H3.out.2.1.same (same_of_grown g4 H3.out.2.1.hB H2.out.2.2.2.2.1) g4.size
    have ck4 : Ck1 bk bm bb vals (.slice (some ⟨bf, 0, none⟩) 1 1) (.slice none 0 0) (I 0) c7 c8 c9 w4 := H3.out.1.other g4 (by have := H2.out.2.2.2.2.2.2.1; simpa using this)
    have b4 := below_of_grown H3.out.2.2.2 g4 H3.out.2.2.2.size H2.out.2.2.2.2.2.2.2.2.1
    have HU := Lib.hid (hasUses_one B bk bm bb bi k cap ks vals _ _ _ c7 c8 c9 (noteF ks k) k w4 ck4 cd4.bl cd4.hB cd4.ins cd4.len md4 HF.out.2)
    have HB4 := Lib.hid b4
    clear md4 g4 cd4 ck4 b4
    go_wp2_with fail
    refine HU.out.mono ?_
    rintro e w5 ⟨rfl, h5⟩
    have FIN := Lib.hid (HB4.out.trans (h5.mono HB4.out.size))
    clear h5
    obtain ⟨r, hr⟩ : ∃ r, r = usesB (noteF ks k) ks k := ⟨_, rfl⟩
    rw [← hr]
    have HR := Lib.hid hr
    clear hr
    cases r
    · go_wp2_with fail
      go_ret
      exact ⟨ret_bool (by rw [← HD.out, ← HR.out]; rfl), FIN.out⟩
    · go_wp2_with fail
      rw [rounds_succ]
      go_wp2_with fail
      go_ret
      exact ⟨ret_bool (by rw [← HD.out, ← HR.out]; rfl), FIN.out⟩

/-- What Check answers. -/
def checkI (ks : Nat → Nat) (k : Nat) (vals : Int) : Int := if 40000 < k then 15 else if decide (0 ≤ vals ∧ vals ≤ 60000) && usesB (noteF ks k) ks k then 0 else 3

set_option maxRecDepth 100000 in
set_option maxHeartbeats 800000 in
theorem check_one (B bf bb bi k cap : Nat) (ks : Nat → Nat) (vals : Int) (w : World) (h : Cod B bf bb bi k cap ks vals w) (hfr : 0 ≤ vals ∧ vals ≤ 60000 → ∀ j, j < k → ks j ≠ 40 → noteF ks j (dstOf (ks j)) = none ∧ 0 ≤ dstOf (ks j) ∧ dstOf (ks j) ≤ vals - 1) (hz : ∀ x, ((noteF ks k x).getD (0, 0)).1 = 0) :
    Calls Try.prog 9 #[codV bf] w fun e w' => e = .returned (I (checkI ks k vals)) ∧ Below w.heap.size w w' := by
  obtain ⟨W, hW⟩ : ∃ W, W = w.alloc (codC bf) := ⟨_, rfl⟩
  obtain ⟨p1, hp1⟩ : ∃ p, p = w.heap.size := ⟨_, rfl⟩
  have e1 : Below w.heap.size w W := by rw [hW]; exact (Below.refl _ _).alloc (Nat.le_refl _) _
  have k1 : Blk p1 #[.slice (some ⟨bf, 0, none⟩) 1 1, .slice none 0 0, I 0] 25 W := by rw [hW, hp1]; exact Blk.new _ _ _
  have h1 := h.below e1
  have H1 := Lib.hid (And.intro e1 (And.intro h1 k1))
  have HW := Lib.hid (And.intro hW hp1)
  have HF := Lib.hid (And.intro hfr hz)
  have x0 := k1.get 0 (.slice (some ⟨bf, 0, none⟩) 1 1) rfl
  have x1 := k1.get 1 (.slice none 0 0) rfl
  have x2 := k1.get 2 (I 0) rfl
  clear h h1 e1 k1 hW hp1 hfr hz
  go_enter Try.func9, Try.ntmps9
  go_upto_region 1 with (fail)
  rw [← HW.out.2]
  change Code.wp _ _ _ _ (w.alloc (codC bf))
  rw [← HW.out.1]
  go_wp2_with fail
  refine (size_one B bf bb bi k cap ks vals W H1.out.2.1).mono ?_
  rintro e w1 ⟨rfl, b1⟩
  have h2 := H1.out.2.1.below b1
  have k2 := H1.out.2.2.below b1 H1.out.2.2.lt
  have e2 := H1.out.1.trans (b1.mono H1.out.1.size)
  have H2 := Lib.hid (And.intro e2 h2)
  have x0 := k2.get 0 (.slice (some ⟨bf, 0, none⟩) 1 1) rfl
  have x1 := k2.get 1 (.slice none 0 0) rfl
  have x2 := k2.get 2 (I 0) rfl
  have hkl := h2.len
  clear b1 h2 k2 e2
  by_cases hbig : 40000 < k
  · have hbI : decide ((40000 : Int) < (k : Int)) = true := by simp; omega
    have FIN := Lib.hid (And.intro (show (15 : Int) = checkI ks k vals by unfold checkI; rw [if_pos hbig]) H2.out.1)
    go_wp2_with fail
    go_ret
    exact ⟨ret_int FIN.out.1, FIN.out.2⟩
  · have hbI : decide ((40000 : Int) < (k : Int)) = false := by simp; omega
    go_wp2_with fail
    refine (isRight_one B bf bb bi k cap ks vals w1 H2.out.2 HF.out.1 HF.out.2).mono ?_
    rintro e w2 ⟨rfl, b2⟩
    have FIN := Lib.hid (H2.out.1.trans (b2.mono H2.out.1.size))
    clear b2
    obtain ⟨r, hr⟩ : ∃ r, r = (decide (0 ≤ vals ∧ vals ≤ 60000) && usesB (noteF ks k) ks k) := ⟨_, rfl⟩
    have HR := Lib.hid (show (if r = true then (0 : Int) else 3) = checkI ks k vals by unfold checkI; rw [if_neg hbig, ← hr])
    rw [← hr]
    clear hr
    cases r
    · go_wp2_with fail
      go_ret
      exact ⟨ret_int HR.out, FIN.out⟩
    · go_wp2_with fail
      go_ret
      exact ⟨ret_int HR.out, FIN.out⟩
end Go.Proofs.Ytiimcckajjpbjaa
